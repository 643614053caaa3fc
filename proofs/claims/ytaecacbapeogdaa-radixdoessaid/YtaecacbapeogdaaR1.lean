/-
  The document's table told: a row of pages and words, rising; contracts of its Get and Walk.
-/
import Derived.Test.YtaecacbapeogdaaActs
import Derived.Laws.OwnMore
namespace Go.Proofs.Ytaecacbapeogdaa
open Go.RowKit

abbrev Ws := List (Nat × Int)
def wdCells (e : Nat × Int) : List Value := [.int .i64 e.1, .int .u64 e.2]
def flat (D : Ws) : List Value := D.flatMap wdCells
theorem flat_len (D : Ws) : (flat D).length = D.length * 2 := by
  unfold flat
  induction D with
  | nil => rfl
  | cons e D ih => rw [List.flatMap_cons, List.length_append, ih, List.length_cons]; simp [wdCells]; omega
theorem flat_snoc (D : Ws) (e : Nat × Int) : flat (D ++ [e]) = flat D ++ wdCells e := by simp [flat]
theorem flat_at (D : Ws) (j i : Nat) (hj : j < D.length) (hi : i < 2) : (flat D)[j * 2 + i]? = (wdCells D[j])[i]? := by
  induction D generalizing j with
  | nil => simp at hj
  | cons e D ih =>
    cases j with
    | zero =>
      show (wdCells e ++ flat D)[0 * 2 + i]? = _
      rw [Nat.zero_mul, Nat.zero_add, List.getElem?_append_left (by simpa [wdCells] using hi)]
      rfl
    | succ j =>
      show (wdCells e ++ flat D)[(j + 1) * 2 + i]? = _
      have hl : (wdCells e).length = 2 := rfl
      rw [List.getElem?_append_right (by omega), hl]
      have : (j + 1) * 2 + i - 2 = j * 2 + i := by omega
      rw [this, ih j (by simpa using hj)]
      simp
def Rise (D : Ws) : Prop := D.Pairwise (fun a b => a.1 < b.1)
/-- The words as a function. -/
def lookD (D : Ws) : Tab := fun p => (D.find? fun e => e.1 == p).map (·.2)
theorem lookD_nil : lookD [] = noT := rfl
theorem lookD_cons (e : Nat × Int) (D : Ws) (p : Nat) : lookD (e :: D) p = if e.1 = p then some e.2 else lookD D p := by
  unfold lookD
  rw [List.find?_cons]
  by_cases h : e.1 = p
  · simp [h]
  · have : (e.1 == p) = false := by simpa using h
    simp [this, h]
theorem lookD_some {D : Ws} (h : Rise D) {p : Nat} {x : Int} : lookD D p = some x ↔ (p, x) ∈ D := by
  induction D with
  | nil => simp [lookD]
  | cons e D ih =>
    have h' := List.pairwise_cons.1 h
    rw [lookD_cons, List.mem_cons]
    by_cases e1 : e.1 = p
    · rw [if_pos e1]
      constructor
      · intro e2
        injection e2 with e2
        left
        exact Prod.ext e1.symm e2.symm
      · rintro (e2 | e2)
        · rw [← e2]
        · have := h'.1 _ e2
          simp only at this
          omega
    · rw [if_neg e1, ih h'.2]
      constructor
      · exact .inr
      · rintro (e2 | e2)
        · exact absurd (by rw [← e2]) e1
        · exact e2
theorem lookD_ne {D : Ws} (h : Rise D) {p : Nat} : lookD D p ≠ none ↔ ∃ x, (p, x) ∈ D := by
  constructor
  · intro hn
    cases hx : lookD D p with
    | none => exact absurd hx hn
    | some x => exact ⟨x, (lookD_some h).1 hx⟩
  · rintro ⟨x, hx⟩
    rw [(lookD_some h).2 hx]
    simp
theorem lookD_ext {D : Ws} {W : Tab} (h : Rise D) (he : ∀ p x, (p, x) ∈ D ↔ W p = some x) : lookD D = W := by
  funext p
  apply Option.ext
  intro x
  rw [lookD_some h]
  exact he p x

/-- The document's table at block r, all that it has from block B on. -/
structure RefIs (w : World) (B r : Nat) (D : Ws) (v : Value) : Prop where
  h : RowAt w r 29 [v]
  l : w.ownsRow B 56 2 v D.length (flat D)
  lo : B ≤ r
section
variable {w w' : World} {B r : Nat} {D : Ws} {v : Value}
theorem RefIs.c0 (h : RefIs w B r D v) : w.cell? ⟨r, 0, none⟩ = some v := by rw [h.h.cell]; rfl
theorem RefIs.kept (h : RefIs w B r D v) (hb : ∀ k cs t, (t = 29 ∨ t = 56) → B ≤ k → w.heap[k]? = some (Obj.cells cs t (0, 0)) → w'.heap[k]? = some (Obj.cells cs t (0, 0))) : RefIs w' B r D v := by
  refine ⟨hb r _ 29 (.inl rfl) h.lo h.h, ⟨h.l.1, ?_⟩, h.lo⟩
  rcases h.l.2 with hn | ⟨g, cap, cur, rfl, hB, hgg, rest⟩
  · exact .inl hn
  · exact .inr ⟨g, cap, cur, rfl, hB, hb g _ 56 (.inr rfl) hB hgg, rest⟩
theorem RefIs.below (h : RefIs w B r D v) (hb : Below w.heap.size w w') : RefIs w' B r D v := h.kept fun k cs t _ _ hk => by rw [hb.block k (lt_of_block hk)]; exact hk
theorem RefIs.drewN (h : RefIs w B r D v) (d : Nat) : RefIs (w.drewN d) B r D v := h.kept fun _ _ _ _ _ hk => hk
/-- A table's turns leave it. -/
theorem RefIs.tab {t : Nat} {N : Nds} {T : Tab} {n m : Int} (h : RefIs w B r D v) (hh : Heap w t N T n m) (hT : Turn (In N) w w') : RefIs w' B r D v := h.kept fun k cs ty' ht _ hk => by
  rw [hT.block k (lt_of_block hk) ?_]
  · exact hk
  · rintro ⟨j, q, hj⟩
    have := hh.row j q k hj
    unfold RowAt at this
    rw [this] at hk
    injection hk with hk
    injection hk with _ hk
    unfold ty at hk
    split at hk <;> rcases ht with rfl | rfl <;> cases hk
theorem RefIs.len (h : RefIs w B r D v) : ∃ a cap, v = .slice a D.length cap := by
  obtain ⟨a, cap, rfl, _⟩ := own_form h.l
  exact ⟨a, cap, rfl⟩
theorem RefIs.at (h : RefIs w B r D v) {k : Nat} (hk : k < D.length) : ∃ g cap, v = .slice (some ⟨g, 0, none⟩) D.length cap ∧ w.cell? ⟨g, k * 2, none⟩ = some (.int .i64 D[k].1) ∧ w.cell? ⟨g, k * 2 + 1, none⟩ = some (.int .u64 D[k].2) := by
  obtain ⟨a, cap, rfl, h1⟩ := own_form h.l
  obtain ⟨g, rfl, h2⟩ := h1 (by omega)
  refine ⟨g, cap, rfl, ?_, ?_⟩
  · have := flat_at D k 0 hk (by omega)
    rw [Nat.add_zero] at this
    rw [h2 _ (by omega), this]; rfl
  · rw [h2 _ (by omega), flat_at D k 1 hk (by omega)]; rfl
end

theorem lookD_no {D : Ws} (h : Rise D) {p : Nat} (hn : ∀ j (h : j < D.length), D[j].1 ≠ p) : lookD D p = none := by
  cases hx : lookD D p with
  | none => rfl
  | some x =>
    obtain ⟨j, hj, e⟩ := List.getElem_of_mem ((lookD_some h).1 hx)
    exact absurd (by rw [e]) (hn j hj)

set_option maxHeartbeats 1000000 in
theorem rget (B r : Nat) (D : Ws) (v : Value) (x : Int) (w : World) (h : RefIs w B r D v) (hR : Rise D) (hD : D.length < 100000) :
    Calls Try.prog 17 #[.pointer (some ⟨r, 0, none⟩), .int .i64 x] w fun e w' => e = .returned (.tuple #[.int .u64 (getX (lookD D) x), .bool (getB (lookD D) x)]) ∧ w' = w := by
  obtain ⟨a, cap, rfl⟩ := h.len
  have hc := h.c0
  have HY : Hid (∀ i (hi : i < D.length), (D[i].1 : Int) = x → getX (lookD D) x = D[i].2 ∧ getB (lookD D) x = true) := by
    intro i hi he
    have : lookD D D[i].1 = some D[i].2 := (lookD_some hR).2 (List.getElem_mem hi)
    rw [← he, getX_nat, getB_nat, this]
    exact ⟨rfl, rfl⟩
  have HN : Hid ((∀ i (hi : i < D.length), (D[i].1 : Int) ≠ x) → getX (lookD D) x = 0 ∧ getB (lookD D) x = false) := by
    intro hn
    by_cases h0 : 0 ≤ x
    · obtain ⟨p, rfl⟩ := Int.eq_ofNat_of_zero_le h0
      rw [getX_nat, getB_nat, lookD_no hR fun j hj e => hn j hj (by rw [e])]
      exact ⟨rfl, rfl⟩
    · simp [getX, getB, h0]
  go_enter Try.func17, Try.ntmps17
  go_wp2
  go_loopw [6] (fun s6 wr => ∃ i : Nat, i ≤ D.length ∧ s6 = .int .i64 i ∧ wr = w ∧ ∀ j (_ : j < i) (hj : j < D.length), (D[j].1 : Int) ≠ x) (fun s6 _ => D.length - (intOf s6).toNat)
  case atStart => exact ⟨0, by omega, rfl, rfl, fun j h => by omega⟩
  case round =>
    obtain ⟨i, hi, rfl, rfl, hno⟩ := hrel
    have HNO : Hid (∀ j (_ : j < i) (hj : j < D.length), (D[j].1 : Int) ≠ x) := hno
    clear hno
    by_cases hlt : i < D.length
    · obtain ⟨g, cap', hv, e0, e1⟩ := h.at hlt
      injection hv with hv1 _ hv2
      subst hv1
      subst hv2
      cases hq : ((D[i].1 : Int) == x) with
      | true =>
        obtain ⟨z1, z2⟩ := HY.out i hlt (by simpa using hq)
        have Z1 : Hid (getX (lookD D) x = D[i].2) := z1
        have Z2 : Hid (getB (lookD D) x = true) := z2
        clear z1 z2
        go_wp2
        go_ret2
        exact ⟨by rw [Z1.out, Z2.out]; rfl, rfl⟩
      | false =>
        have HQ : Hid ((D[i].1 : Int) ≠ x) := (show (D[i].1 : Int) ≠ x by simpa using hq)
        go_wp2
        refine ⟨⟨i + 1, by omega, by go_num, trivial, ?_⟩, by simp [intOf]; omega⟩
        intro j hj hjl
        by_cases e : j = i
        · subst e; exact HQ.out
        · exact HNO.out j (by omega) hjl
    · obtain ⟨z1, z2⟩ := HN.out fun j hj => HNO.out j (by omega) hj
      have Z1 : Hid (getX (lookD D) x = 0) := z1
      have Z2 : Hid (getB (lookD D) x = false) := z2
      clear z1 z2
      go_wp2
      go_ret2
      exact ⟨by rw [Z1.out, Z2.out]; rfl, rfl⟩

/-! ### Walk -/
def keepW (a b : Int) (e : Nat × Int) : Bool := decide (a ≤ (e.1 : Int)) && decide ((e.1 : Int) < b)
def walkD (D : Ws) (a b : Int) : List Nat := (D.filter (keepW a b)).map (·.1)
theorem walkD_is {D : Ws} (h : Rise D) (a b : Int) : IsWalk (lookD D) a b (walkD D a b) := by
  refine ⟨?_, fun p => ?_⟩
  · unfold walkD
    rw [List.pairwise_map]
    exact h.filter _
  · unfold walkD
    rw [List.mem_map, lookD_ne h]
    constructor
    · rintro ⟨⟨q, x⟩, hm, rfl⟩
      obtain ⟨h1, h2⟩ := List.mem_filter.1 hm
      simp [keepW] at h2
      exact ⟨⟨x, h1⟩, h2.1, h2.2⟩
    · rintro ⟨⟨x, hx⟩, h1, h2⟩
      exact ⟨(p, x), List.mem_filter.2 ⟨hx, by simp [keepW, h1, h2]⟩, rfl⟩
theorem walkD_take (D : Ws) (a b : Int) (i : Nat) (hi : i < D.length) : walkD (D.take (i + 1)) a b = if keepW a b D[i] then walkD (D.take i) a b ++ [D[i].1] else walkD (D.take i) a b := by
  unfold walkD
  rw [← List.take_append_getElem hi, List.filter_append, List.map_append]
  cases h : keepW a b D[i] <;> simp [h]

set_option maxHeartbeats 2000000 in
theorem rwalk (B r : Nat) (D : Ws) (v : Value) (a b : Int) (w : World) (h : RefIs w B r D v) (hD : D.length < 100000) :
    Calls Try.prog 23 #[.pointer (some ⟨r, 0, none⟩), .int .i64 a, .int .i64 b] w fun e w' => ∃ u, e = .returned u ∧ w'.ownsRow w.heap.size 3 1 u (walkD D a b).length ((walkD D a b).map iv) ∧ Below w.heap.size w w' := by
  obtain ⟨i0, hi, hz0, hz1, hz2⟩ := info_parts info3
  obtain ⟨av, cv, rfl⟩ := h.len
  have HB : Hid (∀ wx, Below w.heap.size w wx → RefIs wx B r D (.slice av D.length cv)) := fun wx hb => h.below hb
  have hc := h.c0
  go_enter Try.func23, Try.ntmps23
  go_wp2
  go_loopw [7, 8] (fun s7 s8 wr => ∃ i : Nat, i ≤ D.length ∧ s8 = .int .i64 i ∧ wr.ownsRow w.heap.size 3 1 s7 (walkD (D.take i) a b).length ((walkD (D.take i) a b).map iv) ∧ Below w.heap.size w wr) (fun _ s8 _ => D.length - (intOf s8).toNat)
  case atStart => exact ⟨0, by omega, rfl, World.ownsRow_nil _ _ _ _, Below.refl _ _⟩
  case round =>
    clear hc
    obtain ⟨i, hil, rfl, hrow, hb⟩ := hrel
    have hr := HB.out _ hb
    have hc := hr.c0
    have hbs := hb.size
    by_cases hlt : i < D.length
    · obtain ⟨g, cap', hv, e0, -⟩ := hr.at hlt
      injection hv with hv1 _ hv2
      subst hv1
      subst hv2
      have HT := walkD_take D a b i hlt
      have hll : (walkD (D.take i) a b).length ≤ i := by
        unfold walkD
        rw [List.length_map]
        exact Nat.le_trans (List.length_filter_le _ _) (by simp; omega)
      obtain ⟨y, hy⟩ : ∃ y, y = D[i].1 := ⟨_, rfl⟩
      have hk : keepW a b D[i] = (decide (a ≤ (y : Int)) && decide ((y : Int) < b)) := by rw [hy]; rfl
      rw [hk, ← hy] at HT
      rw [← hy] at e0
      have HTT : Hid (walkD (D.take (i + 1)) a b = if (decide (a ≤ (y : Int)) && decide ((y : Int) < b)) = true then walkD (D.take i) a b ++ [y] else walkD (D.take i) a b) := HT
      clear hk hy HT hr h
      cases q1 : decide (a ≤ (y : Int)) with
      | false =>
        have HT2 : Hid (walkD (D.take (i + 1)) a b = walkD (D.take i) a b) := by show _ = _; rw [HTT.out, q1]; rfl
        go_wp2
        exact ⟨⟨i + 1, by omega, by go_num, by rw [HT2.out]; exact hrow, hb⟩, by simp [intOf]; omega⟩
      | true =>
        cases q2 : decide ((y : Int) < b) with
        | false =>
          have HT2 : Hid (walkD (D.take (i + 1)) a b = walkD (D.take i) a b) := by show _ = _; rw [HTT.out, q1, q2]; rfl
          go_wp2
          exact ⟨⟨i + 1, by omega, by go_num, by rw [HT2.out]; exact hrow, hb⟩, by simp [intOf]; omega⟩
        | true =>
          have HT2 : Hid (walkD (D.take (i + 1)) a b = walkD (D.take i) a b ++ [y]) := by show _ = _; rw [HTT.out, q1, q2]; rfl
          go_wp2_with (at_builtin; refine wpList_append_own _ rfl _ _ 40 rfl w.heap.size 3 i0 (.int .i64 0) 1 8 Try.underlying40 hi hz0 hz1 hz2 rfl (by decide) u7 _ _ rfl (hrow.alloc _) ⟨wr.heap.size, 0, none⟩ 1 1 [.int .i64 y] rfl rfl (cell_one_new _ _ _) (by simp [Value.oneCell']) (by unfold maxLen; omega) (by omega) (by simp; omega) ?_; intro v' w3 hown' hgrow _)
          have hg : (wr.alloc (.cells #[.int .i64 y] 3)).grownBy w3 u7.ownBlock := hgrow
          have hb3 : Below w.heap.size w w3 := (hb.trans ((below_alloc _ _).mono hbs)).grown hg (by simp; omega) fun j ej => (hrow.lt j ej).1
          have hr3 : w3.ownsRow w.heap.size 3 1 v' (walkD (D.take (i + 1)) a b).length ((walkD (D.take (i + 1)) a b).map iv) := by rw [HT2.out]; simpa [iv] using hown'
          exact ⟨⟨i + 1, by omega, by go_num, hr3, hb3⟩, by simp [intOf]; omega⟩
    · have : D.take i = D := List.take_of_length_le (by omega)
      rw [this] at hrow
      go_wp2
      go_ret
      exact ⟨_, rfl, hrow, hb⟩
end Go.Proofs.Ytaecacbapeogdaa
