/-
  The document's table as it lies in memory: a row of pages; the contract of its Has.
-/
import Derived.Test.YtponlldgnlckfaaMath
import Derived.Test.YtponlldgnlckfaaUp
import Derived.Test.YtponlldgnlckfaaRows
import Derived.Laws.OwnMore
import Derived.Laws.ResultCell
import Derived.Laws.Rows
namespace Go.Proofs.Ytponlldgnlckfaa
open Go.RowKit

theorem below_drawn {B : Nat} {w w' : World} (h : Below B w w') (n : Nat) : Below B w (w'.drewN n) := ⟨h.os, h.tape, h.output, h.size, h.block⟩
theorem bel_trans {n : Nat} {a b c : World} (h : Below n a b) (k : Below b.heap.size b c) (hn : n ≤ a.heap.size) : Below n a c := h.trans (k.mono (Nat.le_trans hn h.size))
theorem cell_later {w w' : World} (h : Below w.heap.size w w') {p : Addr} {v : Value} (hc : w.cell? p = some v) : w'.cell? p = some v := by
  rw [h.cell (p := p) (block_lt_of_cell (a := p) hc)]; exact hc
theorem own_form {w : World} {B e c n : Nat} {v : Value} {xs : List Value} (h : w.ownsRow B e c v n xs) :
    ∃ a cap, v = .slice a n cap ∧ (0 < n → ∃ g, a = some ⟨g, 0, none⟩ ∧ ∀ j, j < n * c → w.cell? ⟨g, j, none⟩ = xs[j]?) := by
  rcases h.2 with ⟨rfl, rfl⟩ | ⟨g, cap, cur, rfl, _⟩
  · exact ⟨none, 0, rfl, fun h => by omega⟩
  · exact ⟨_, cap, rfl, fun _ => ⟨g, rfl, fun j hj => h.cellAt j hj⟩⟩
theorem own_turn {w w' : World} {B e c n : Nat} {v : Value} {xs : List Value} (h : w.ownsRow B e c v n xs) (hb : ∀ k cur, B ≤ k → w.heap[k]? = some (.cells cur e (0, 0)) → w'.heap[k]? = some (.cells cur e (0, 0))) : w'.ownsRow B e c v n xs := by
  refine ⟨h.1, ?_⟩
  rcases h.2 with hn | ⟨g, cap, cur, rfl, hg, hgg, rest⟩
  · exact .inl hn
  · exact .inr ⟨g, cap, cur, rfl, hg, hb g cur hg hgg, rest⟩
theorem own_below {w w' : World} {B e c n : Nat} {v : Value} {xs : List Value} (h : w.ownsRow B e c v n xs) (hb : Below w.heap.size w w') : w'.ownsRow B e c v n xs :=
  own_turn h fun k _ _ hk => (hb.block k (lt_of_block hk)).trans hk
theorem own_lower {w : World} {B B' e c n : Nat} {v : Value} {xs : List Value} (h : w.ownsRow B e c v n xs) (hB : B' ≤ B) : w.ownsRow B' e c v n xs := by
  refine ⟨h.1, ?_⟩
  rcases h.2 with hn | ⟨g, cap, cur, rfl, hg, rest⟩
  · exact .inl hn
  · exact .inr ⟨g, cap, cur, rfl, by omega, rest⟩

/-! ### which blocks turn -/
/-- All blocks that are so stay; more may be made. -/
structure Kp (p : Obj → Bool) (w w' : World) : Prop where
  os : w'.os = w.os
  tape : w'.tape = w.tape
  output : w'.output = w.output
  size : w.heap.size ≤ w'.heap.size
  block : ∀ (k : Nat) (o : Obj), p o = true → w.heap[k]? = some o → w'.heap[k]? = some o
section
variable {p : Obj → Bool} {u v w w' : World}
theorem Kp.refl (p : Obj → Bool) (w : World) : Kp p w w := ⟨rfl, rfl, rfl, Nat.le_refl _, fun _ _ _ h => h⟩
theorem Kp.trans (h : Kp p u v) (k : Kp p v w) : Kp p u w := ⟨k.os.trans h.os, k.tape.trans h.tape, k.output.trans h.output, Nat.le_trans h.size k.size, fun i o ho hi => k.block i o ho (h.block i o ho hi)⟩
theorem Kp.ofBelow (h : Below w.heap.size w w') : Kp p w w' := ⟨h.os, h.tape, h.output, h.size, fun k _ _ hk => (h.block k (lt_of_block hk)).trans hk⟩
theorem Kp.drewN (h : Kp p w w') (n : Nat) : Kp p w (w'.drewN n) := ⟨h.os, h.tape, h.output, h.size, h.block⟩
theorem kp_set {b : Nat} {o : Obj} (hb : w.heap[b]? = some o) (ho : p o = false) (i : Nat) (x : Value) : Kp p w (w.setCell ⟨b, i, none⟩ x) := by
  refine ⟨rfl, rfl, rfl, by simp, fun k o' ho' hk => ?_⟩
  rw [heap_setCell_other w _ k x ?_]
  · exact hk
  · intro e
    have e2 : k = b := e
    subst e2
    rw [hk] at hb
    injection hb with hb
    subst hb
    rw [ho] at ho'
    cases ho'
theorem kp_grown {B e c n : Nat} {x : Value} {xs : List Value} (hown : w.ownsRow B e c x n xs) (hg : w.grownBy w' x.ownBlock) (hC : ∀ cur, p (.cells cur e (0, 0)) = false) : Kp p w w' := by
  refine ⟨hg.os, hg.tape, hg.output, hg.size, fun k o ho hk => ?_⟩
  rw [hg.block k (lt_of_block hk) ?_]
  · exact hk
  · intro he
    rcases hown.2 with ⟨rfl, -⟩ | ⟨g, cap, cur', rfl, -, hgg, -⟩
    · cases he
    · simp only [Value.ownBlock, Option.some.injEq] at he
      subst he
      rw [hk] at hgg
      injection hgg with h1
      subst h1
      rw [hC] at ho
      cases ho
theorem RowAt.kp {b : Nat} {t : TypeId} {vs : List Value} (h : RowAt w b t vs) (hk : Kp p w w') (hp : p (.cells vs.toArray t (0, 0)) = true) : RowAt w' b t vs := hk.block b _ hp h
end
/-- The document's blocks: its table's head, and its rows. -/
def dob (o : Obj) : Bool := match o with | .cells _ t _ => t == 32 || t == 68 | _ => false
def pob (o : Obj) : Bool := !dob o

/-- A page's ten cells. -/
def nc (x : Pg) : List Value := [.int .i64 x.kf, .int .i64 x.ki, .int .i64 x.pl, .int .i64 x.at', .int .i64 x.ow, .int .i64 x.rf, .int .i64 0, .bool false, .bool x.dr, .bool x.gn]
def flatN (L : List Pg) : List Value := L.flatMap nc
theorem flatN_len (L : List Pg) : (flatN L).length = L.length * 10 := by
  unfold flatN
  induction L with
  | nil => rfl
  | cons e L ih => rw [List.flatMap_cons, List.length_append, ih, List.length_cons]; simp [nc]; omega
theorem flatN_append (A B : List Pg) : flatN (A ++ B) = flatN A ++ flatN B := by simp [flatN]
theorem flatN_at (L : List Pg) (j i : Nat) (hj : j < L.length) (hi : i < 10) : (flatN L)[j * 10 + i]? = (nc (pg L j))[i]? := by
  induction L generalizing j with
  | nil => simp at hj
  | cons e L ih =>
    have hl : (nc e).length = 10 := rfl
    cases j with
    | zero =>
      show (nc e ++ flatN L)[0 * 10 + i]? = _
      rw [Nat.zero_mul, Nat.zero_add, List.getElem?_append_left (by omega)]
      rfl
    | succ j =>
      show (nc e ++ flatN L)[(j + 1) * 10 + i]? = _
      rw [List.getElem?_append_right (by omega), hl]
      have : (j + 1) * 10 + i - 10 = j * 10 + i := by omega
      rw [this, ih j (by simpa using hj)]
      rfl
theorem flatN_one (L : List Pg) : ∀ u ∈ flatN L, u.oneCell' = true := by
  intro u hu
  obtain ⟨x, _, h⟩ := List.mem_flatMap.1 hu
  simp only [nc, List.mem_cons, List.not_mem_nil, or_false] at h
  rcases h with rfl | rfl | rfl | rfl | rfl | rfl | rfl | rfl | rfl | rfl <;> rfl
theorem flatN_set (L : List Pg) (i k : Nat) (y : Pg) (v : Value) (hi : i < L.length) (hk : k < 10) (hy : nc y = (nc (pg L i)).set k v) : (flatN L).set (i * 10 + k) v = flatN (L.set i y) := by
  apply List.ext_getElem?
  intro j
  have hj3 : j / 10 * 10 + j % 10 = j := by omega
  by_cases hj : j < L.length * 10
  · have hjl : j / 10 < L.length := by omega
    have hm : j % 10 < 10 := Nat.mod_lt _ (by decide)
    have e2 := flatN_at (L.set i y) (j / 10) (j % 10) (by simpa using hjl) hm
    rw [hj3] at e2
    rw [e2]
    have e1 := flatN_at L (j / 10) (j % 10) hjl hm
    rw [hj3] at e1
    rw [pg_set hi]
    by_cases hq : j / 10 = i
    · rw [if_pos hq, hy]
      by_cases hr : j % 10 = k
      · have : i * 10 + k = j := by omega
        rw [this, List.getElem?_set_self (by rw [flatN_len]; exact hj), hr]
        have : k < (nc (pg L i)).length := hk
        rw [List.getElem?_set_self this]
      · rw [List.getElem?_set_ne (by omega), e1, List.getElem?_set_ne (by omega), hq]
    · rw [if_neg hq, List.getElem?_set_ne (by omega), e1]
  · rw [List.getElem?_eq_none (by rw [List.length_set, flatN_len]; omega), List.getElem?_eq_none (by rw [flatN_len, List.length_set]; omega)]

theorem info68 : (Try.prog.info? 68).map (fun i => (i.zero, i.size, i.bytes)) = some (some (.agg #[.int .i64 0, .int .i64 0, .int .i64 0, .int .i64 0, .int .i64 0, .int .i64 0, .int .i64 0, .bool false, .bool false, .bool false]), 10, 72) := by kernel_rfl

/-- The document's table at block r, all that it has from block B on. -/
structure RefIs (B : Nat) (w : World) (r : Nat) (L : List Pg) : Prop where
  h : ∃ v, RowAt w r 32 [v] ∧ w.ownsRow B 68 10 v L.length (flatN L)
  lo : B ≤ r
section
variable {B : Nat} {w w' : World} {r : Nat} {L : List Pg}
theorem RefIs.below (h : RefIs B w r L) (hb : Below w.heap.size w w') : RefIs B w' r L := by
  obtain ⟨v, h1, h2⟩ := h.h
  exact ⟨⟨v, h1.below hb h1.lt, own_below h2 hb⟩, h.lo⟩
theorem RefIs.drewN (h : RefIs B w r L) (n : Nat) : RefIs B (w.drewN n) r L := h.below ⟨rfl, rfl, rfl, Nat.le_refl _, fun _ _ => rfl⟩
theorem RefIs.lt (h : RefIs B w r L) : r < w.heap.size := by
  obtain ⟨v, h1, h2⟩ := h.h
  exact h1.lt
/-- The table's head, its row, and each page's cells. -/
theorem RefIs.open (h : RefIs B w r L) : ∃ a cap, w.cell? ⟨r, 0, none⟩ = some (.slice a L.length cap) ∧
    (∀ k, k < L.length → ∃ g, a = some ⟨g, 0, none⟩ ∧ ∀ i, i < 10 → w.cell? ⟨g, k * 10 + i, none⟩ = (nc (pg L k))[i]?) ∧
    w.ownsRow B 68 10 (.slice a L.length cap) L.length (flatN L) ∧ RowAt w r 32 [.slice a L.length cap] := by
  obtain ⟨v, h1, h2⟩ := h.h
  obtain ⟨a, cap, rfl, h3⟩ := own_form h2
  refine ⟨a, cap, by rw [h1.cell]; rfl, fun k hk => ?_, h2, h1⟩
  obtain ⟨g, rfl, h4⟩ := h3 (by omega)
  exact ⟨g, rfl, fun i hi => by rw [h4 _ (by omega), flatN_at L k i hk hi]⟩
end

theorem RefIs.kp {B : Nat} {w w' : World} {r : Nat} {L : List Pg} (h : RefIs B w r L) (hk : Kp dob w w') : RefIs B w' r L := by
  obtain ⟨v, h1, h2⟩ := h.h
  exact ⟨⟨v, h1.kp hk rfl, own_turn h2 fun k cur _ hc => hk.block k _ rfl hc⟩, h.lo⟩
/-- The same, the row's block named. -/
structure RefAt (B : Nat) (w : World) (r g cap : Nat) (L : List Pg) : Prop where
  row : RowAt w r 32 [.slice (some ⟨g, 0, none⟩) L.length cap]
  own : w.ownsRow B 68 10 (.slice (some ⟨g, 0, none⟩) L.length cap) L.length (flatN L)
  lo : B ≤ r
section
variable {B : Nat} {w w' : World} {r g cap : Nat} {L : List Pg}
theorem RefAt.is (h : RefAt B w r g cap L) : RefIs B w r L := ⟨⟨_, h.row, h.own⟩, h.lo⟩
theorem RefIs.at (h : RefIs B w r L) {k : Nat} (hk : k < L.length) : ∃ g cap, RefAt B w r g cap L := by
  obtain ⟨a, cap, hc, hat, hown, hrow⟩ := h.open
  obtain ⟨g, rfl, h1⟩ := hat k hk
  exact ⟨g, cap, hrow, hown, h.lo⟩
theorem RefAt.head (h : RefAt B w r g cap L) : w.cell? ⟨r, 0, none⟩ = some (.slice (some ⟨g, 0, none⟩) L.length cap) := by rw [h.row.cell]; rfl
theorem RefAt.cell (h : RefAt B w r g cap L) {k : Nat} (hk : k < L.length) (i : Nat) (hi : i < 10) : w.cell? ⟨g, k * 10 + i, none⟩ = (nc (pg L k))[i]? := by
  rw [h.own.cellAt _ (by omega), flatN_at L k i hk hi]
theorem RefAt.frozen (h : RefAt B w r g cap L) (i : Nat) : w.frozen? ⟨g, i, none⟩ = false := h.own.frozenAt i
theorem RefAt.drewN (h : RefAt B w r g cap L) (n : Nat) : RefAt B (w.drewN n) r g cap L := ⟨h.row.drewN n, own_below h.own ⟨rfl, rfl, rfl, Nat.le_refl _, fun _ _ => rfl⟩, h.lo⟩
/-- One place of a page written. -/
theorem RefAt.turn (h : RefAt B w r g cap L) {k j : Nat} {v : Value} (y : Pg) (hk : k < L.length) (hj : j < 10) (hy : nc y = (nc (pg L k)).set j v) :
    RefAt B (w.setCell ⟨g, k * 10 + j, none⟩ v) r g cap (L.set k y) ∧ Below B w (w.setCell ⟨g, k * 10 + j, none⟩ v) ∧ Kp pob w (w.setCell ⟨g, k * 10 + j, none⟩ v) := by
  obtain ⟨o1, g1⟩ := h.own.stored (k * 10 + j) v
  obtain ⟨l1, l2⟩ := h.own.lt g rfl
  rw [flatN_set L k j y v hk hj hy] at o1
  obtain ⟨cur, hcur⟩ : ∃ cur, w.heap[g]? = some (.cells cur 68 (0, 0)) := by
    rcases h.own.2 with ⟨h2, _⟩ | ⟨g', cp, cur, h2, _, h3, _⟩
    · cases h2
    · injection h2 with h2
      injection h2 with h2
      injection h2 with h2
      subst h2
      exact ⟨cur, h3⟩
  have hrow := h.row
  have hne : r ≠ g := by
    rintro rfl
    unfold RowAt at hrow
    rw [hrow] at hcur
    injection hcur with h3
    injection h3 with _ h3
    cases h3
  refine ⟨⟨?_, ?_, h.lo⟩, (But.setCell g (k * 10 + j) w v).below l1, kp_set hcur rfl _ _⟩
  · have := hrow.other (c := g) hne (k * 10 + j) v
    simpa using this
  · simpa using o1
end

set_option maxHeartbeats 1000000 in
theorem rhas (B r : Nat) (L : List Pg) (id : Int) (w : World) (h : RefIs B w r L) :
    Calls Try.prog 35 #[.pointer (some ⟨r, 0, none⟩), .int .i64 id] w fun e w' => e = .returned (.bool (has L id)) ∧ w' = w := by
  obtain ⟨a, cap, hc, hat, -, -⟩ := h.open
  by_cases h0 : 0 ≤ id
  · obtain ⟨k, rfl⟩ := Int.eq_ofNat_of_zero_le h0
    have t0 : decide ((0 : Int) ≤ (k : Int)) = true := by simp
    by_cases h1 : k < L.length
    · have t1 : decide ((k : Int) < (L.length : Int)) = true := by simp; omega
      obtain ⟨g, rfl, hk⟩ := hat k h1
      have k9 := hk 9 (by omega)
      have HQ : Hid (has L k = !(pg L k).gn) := by show _ = _; unfold has; simp [h1]
      have k9' : w.cell? ⟨g, k * 10 + 9, none⟩ = some (.bool (pg L k).gn) := k9
      obtain ⟨b, hb⟩ : ∃ b, b = (pg L k).gn := ⟨_, rfl⟩
      rw [← hb] at HQ k9'
      clear k9 hk hat h hb h0
      go_enter Try.func35, Try.ntmps35
      go_wp2
      go_ret
      exact ⟨by rw [HQ.out]; rfl, rfl⟩
    · have t1 : decide ((k : Int) < (L.length : Int)) = false := by simp; omega
      have HQ : Hid (has L k = false) := by show _ = _; unfold has; simp; intro h; omega
      clear hat h h0
      go_enter Try.func35, Try.ntmps35
      go_wp2
      go_ret
      exact ⟨by rw [HQ.out]; rfl, rfl⟩
  · have t0 : decide (0 ≤ id) = false := by simp; omega
    have HQ : Hid (has L id = false) := by show _ = _; unfold has; simp; intro h; omega
    clear hat h
    go_enter Try.func35, Try.ntmps35
    go_wp2
    go_ret
    exact ⟨by rw [HQ.out]; rfl, rfl⟩
end Go.Proofs.Ytponlldgnlckfaa
