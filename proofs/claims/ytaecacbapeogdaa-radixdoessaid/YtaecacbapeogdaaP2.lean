/-
  A table's nodes in memory, told by their beginnings; the contract of find.
-/
import Derived.Test.YtaecacbapeogdaaP1
namespace Go.Proofs.Ytaecacbapeogdaa
open Go.RowKit

/-! ### a node's cells -/
def ptr (o : Option Nat) : Value := .pointer (o.map fun b => ⟨b, 0, none⟩)
def place (o : Option Nat) (x : Option Int) : List Value := [ptr o, .int .u64 (x.getD 0), .bool x.isSome]
def nodeRow (o : Nat → Option Nat) (x : Nat → Option Int) : List Value := (List.range 16).flatMap fun i => place (o i) (x i)
theorem flatMap3_len {α : Type} (f : Nat → List α) (h : ∀ i, (f i).length = 3) (n : Nat) : ((List.range n).flatMap f).length = n * 3 := by
  induction n with
  | zero => rfl
  | succ n ih => rw [List.range_succ, List.flatMap_append, List.length_append, ih]; simp [h]; omega
theorem flatMap3_get {α : Type} (f : Nat → List α) (h : ∀ i, (f i).length = 3) (n i j : Nat) (hi : i < n) (hj : j < 3) : ((List.range n).flatMap f)[i * 3 + j]? = (f i)[j]? := by
  induction n with
  | zero => omega
  | succ n ih =>
    rw [List.range_succ, List.flatMap_append]
    by_cases hn : i < n
    · rw [List.getElem?_append_left (by rw [flatMap3_len f h]; omega), ih hn]
    · have : i = n := by omega
      subst this
      rw [List.getElem?_append_right (by rw [flatMap3_len f h]; omega), flatMap3_len f h]
      have e : i * 3 + j - i * 3 = j := by omega
      rw [e]
      simp
section
variable {o o' : Nat → Option Nat} {x x' : Nat → Option Int}
theorem nodeRow_len : (nodeRow o x).length = 48 := flatMap3_len _ (fun _ => rfl) 16
theorem nodeRow_get {i j : Nat} (hi : i < 16) (hj : j < 3) : (nodeRow o x)[i * 3 + j]? = (place (o i) (x i))[j]? := flatMap3_get _ (fun _ => rfl) 16 i j hi hj
theorem row48_ext {l m : List Value} (hl : l.length = 48) (hm : m.length = 48) (h : ∀ i j, i < 16 → j < 3 → l[i * 3 + j]? = m[i * 3 + j]?) : l = m := by
  apply List.ext_getElem?
  intro n
  by_cases hn : n < 48
  · have := h (n / 3) (n % 3) (by omega) (by omega)
    rw [show n / 3 * 3 + n % 3 = n by omega] at this
    exact this
  · rw [List.getElem?_eq_none (by omega), List.getElem?_eq_none (by omega)]
theorem nodeRow_congr (h : ∀ i, i < 16 → o i = o' i ∧ x i = x' i) : nodeRow o x = nodeRow o' x' := by
  refine row48_ext nodeRow_len nodeRow_len fun i j hi hj => ?_
  rw [nodeRow_get hi hj, nodeRow_get hi hj, (h i hi).1, (h i hi).2]
theorem nodeRow_ptr {i : Nat} (hi : i < 16) (b : Option Nat) : (nodeRow o x).set (i * 3) (ptr b) = nodeRow (fun j => if j = i then b else o j) x := by
  refine row48_ext (by simp [nodeRow_len]) nodeRow_len fun i' j hi' hj => ?_
  rw [nodeRow_get hi' hj, List.getElem?_set]
  by_cases h : i * 3 = i' * 3 + j
  · have h1 : i' = i := by omega
    have h2 : j = 0 := by omega
    subst h1
    subst h2
    rw [if_pos h, if_pos (by rw [nodeRow_len]; omega)]
    simp [place]
  · rw [if_neg h, nodeRow_get hi' hj]
    by_cases h1 : i' = i
    · subst h1
      have h2 : j = 1 ∨ j = 2 := by omega
      rcases h2 with rfl | rfl <;> simp [place]
    · simp [h1]
theorem nodeRow_all {i : Nat} (hi : i < 16) (b : Option Nat) (y : Option Int) :
    (((nodeRow o x).set (i * 3) (ptr b)).set (i * 3 + 1) (.int .u64 (y.getD 0))).set (i * 3 + 2) (.bool y.isSome) = nodeRow (fun j => if j = i then b else o j) (fun j => if j = i then y else x j) := by
  refine row48_ext (by simp [nodeRow_len]) nodeRow_len fun i' j hi' hj => ?_
  rw [nodeRow_get hi' hj, nodeRow_ptr hi, List.getElem?_set, List.getElem?_set]
  simp only [List.length_set, nodeRow_len]
  by_cases h1 : i' = i
  · subst h1
    have h2 : j = 0 ∨ j = 1 ∨ j = 2 := by omega
    rcases h2 with rfl | rfl | rfl
    · rw [if_neg (by omega), if_neg (by omega), nodeRow_get hi' (by omega)]; simp [place]
    · rw [if_neg (by omega), if_pos (by omega), if_pos (by omega)]; simp [place]
    · rw [if_pos (by omega), if_pos (by omega)]; simp [place]
  · rw [if_neg (by omega), if_neg (by omega), nodeRow_get hi' hj]
    simp [h1]
theorem ptr_inj {a b : Option Nat} (h : ptr a = ptr b) : a = b := by
  cases a <;> cases b <;> simp [ptr] at h ⊢
  exact h
theorem nodeRow_inj (h : nodeRow o x = nodeRow o' x') {i : Nat} (hi : i < 16) : o i = o' i ∧ (x i).isSome = (x' i).isSome := by
  have h0 := nodeRow_get (o := o) (x := x) hi (j := 0) (by omega)
  have h2 := nodeRow_get (o := o) (x := x) hi (j := 2) (by omega)
  rw [h, nodeRow_get hi (by omega)] at h0 h2
  simp only [place, List.getElem?_cons_zero, List.getElem?_cons_succ, Option.some.injEq] at h0 h2
  exact ⟨ptr_inj h0.symm, by injection h2 with h2; exact h2.symm⟩
end
def emptyRow : List Value := nodeRow (fun _ => none) (fun _ => none)

/-! ### nodes -/
abbrev Nds := Nat → Nat → Option Nat
def wd (W : Tab) (k p : Nat) : Option Int := if k = 4 then W p else none
def nodeCells (N : Nds) (W : Tab) (k q : Nat) : List Value := nodeRow (fun i => N (k + 1) (16 * q + i)) (fun i => wd W (k + 1) (16 * q + i))

def ty (k : Nat) : TypeId := if k = 0 then 53 else 51
def tl (n m : Int) (k : Nat) : List Value := if k = 0 then [.int .i64 n, .int .i64 m] else []
theorem nodeCells_len (N : Nds) (W : Tab) (k q : Nat) : (nodeCells N W k q).length = 48 := nodeRow_len
/-- The nodes of a table at block t, by their beginnings, with its words and its two counts. -/
structure Heap (w : World) (t : Nat) (N : Nds) (W : Tab) (n m : Int) : Prop where
  top : ∀ q, N 0 q = if q = 0 then some t else none
  row : ∀ k q b, N k q = some b → RowAt w b (ty k) (nodeCells N W k q ++ tl n m k)
  inj : ∀ k q k' q' b, N k q = some b → N k' q' = some b → k = k' ∧ q = q'
  lim : ∀ k q, N k q ≠ none → k ≤ 3
  up : ∀ k q, N (k + 1) q ≠ none → N k (q / 16) ≠ none
  wup : ∀ p, W p ≠ none → N 3 (p / 16) ≠ none
  fits : Fits W
section
variable {w w' : World} {t : Nat} {N : Nds} {W : Tab} {n m : Int}
theorem Heap.cell (h : Heap w t N W n m) {k q b i j : Nat} (hb : N k q = some b) (hi : i < 16) (hj : j < 3) : w.cell? ⟨b, i * 3 + j, none⟩ = (place (N (k + 1) (16 * q + i)) (wd W (k + 1) (16 * q + i)))[j]? := by
  rw [(h.row k q b hb).cell, List.getElem?_append_left (by rw [nodeCells_len]; omega)]
  exact nodeRow_get hi hj
theorem Heap.frozen (h : Heap w t N W n m) {k q b : Nat} (hb : N k q = some b) (i : Nat) : w.frozen? ⟨b, i, none⟩ = false := (h.row k q b hb).frozen i
theorem Heap.lt (h : Heap w t N W n m) {k q b : Nat} (hb : N k q = some b) : b < w.heap.size := (h.row k q b hb).lt
theorem Heap.kept (h : Heap w t N W n m) (hb : ∀ k q b, N k q = some b → w'.heap[b]? = w.heap[b]?) : Heap w' t N W n m := by
  refine ⟨h.top, ?_, h.inj, h.lim, h.up, h.wup, h.fits⟩
  intro k q b e
  have := h.row k q b e
  unfold RowAt at this ⊢
  rw [hb _ _ _ e]
  exact this
theorem Heap.below (h : Heap w t N W n m) (hb : Below w.heap.size w w') : Heap w' t N W n m := h.kept fun _ _ b e => hb.block b (h.lt e)
theorem Heap.drewN (h : Heap w t N W n m) (k : Nat) : Heap (w.drewN k) t N W n m := h.kept fun _ _ _ _ => rfl
theorem Heap.turn {C : Nat → Prop} (h : Heap w t N W n m) (ht : Turn C w w') (hC : ∀ k q b, N k q = some b → ¬ C b) : Heap w' t N W n m := h.kept fun k q b e => ht.block b (h.lt e) (hC k q b e)
theorem Heap.root (h : Heap w t N W n m) : RowAt w t 53 (nodeCells N W 0 0 ++ [.int .i64 n, .int .i64 m]) := h.row 0 0 t (by rw [h.top]; rfl)
theorem Heap.words (h : Heap w t N W n m) : w.cell? ⟨t, 48, none⟩ = some (.int .i64 n) := by
  rw [h.root.cell, List.getElem?_append_right (by rw [nodeCells_len]; omega), nodeCells_len]; rfl
theorem Heap.others (h : Heap w t N W n m) : w.cell? ⟨t, 49, none⟩ = some (.int .i64 m) := by
  rw [h.root.cell, List.getElem?_append_right (by rw [nodeCells_len]; omega), nodeCells_len]; rfl
theorem Heap.t0 (h : Heap w t N W n m) : N 0 0 = some t := by rw [h.top]; rfl
/-- A page that has no node of some beginning has no word. -/
theorem Heap.upto (h : Heap w t N W n m) {p k : Nat} (hp : W p ≠ none) (hk : k ≤ 3) : N k (pg p k) ≠ none := by
  have h3 : N 3 (pg p 3) ≠ none := by rw [pg_three]; exact h.wup p hp
  have h2 : N 2 (pg p 2) ≠ none := by rw [pg_up p (by omega)]; exact h.up _ _ h3
  have h1 : N 1 (pg p 1) ≠ none := by rw [pg_up p (by omega)]; exact h.up _ _ h2
  have h0 : N 0 (pg p 0) ≠ none := by rw [pg_up p (by omega)]; exact h.up _ _ h1
  have : k = 0 ∨ k = 1 ∨ k = 2 ∨ k = 3 := by omega
  rcases this with rfl | rfl | rfl | rfl <;> assumption
theorem wd_four (W : Tab) (p : Nat) : wd W 4 p = W p := by simp [wd]
theorem wd_less (W : Tab) {k : Nat} (p : Nat) (h : k ≠ 4) : wd W k p = none := by simp [wd, h]
/-- Where the way down ends, the place tells what the page has. -/
theorem Heap.ends (h : Heap w t N W n m) {p k : Nat} (hk : k ≤ 3) (hn : N (k + 1) (pg p (k + 1)) = none) : wd W (k + 1) (pg p (k + 1)) = W p := by
  by_cases h3 : k = 3
  · subst h3
    rw [wd_four, pg_four]
  · rw [wd_less _ _ (by omega)]
    cases hw : W p with
    | none => rfl
    | some x => exact absurd hn (h.upto (p := p) (k := k + 1) (by rw [hw]; simp) (by omega))
end

set_option maxHeartbeats 1000000 in
theorem pfind (t : Nat) (N : Nds) (W : Tab) (n m : Int) (p : Nat) (hp : p < 65536) (w : World) (h : Heap w t N W n m) :
    Calls Try.prog 31 #[.pointer (some ⟨t, 0, none⟩), .int .i64 p] w fun e w' => ∃ (k b sh d : Nat), e = .returned (.tuple #[.pointer (some ⟨b, dg p k * 3, none⟩), .int .i64 sh]) ∧ k ≤ 3 ∧ sh + 4 * k = 12 ∧ N k (pg p k) = some b ∧ N (k + 1) (pg p (k + 1)) = none ∧ w' = w.drewN d := by
  have hd := fun (w : World) (k sh : Nat) (hk : sh + 4 * k = 12) => pdigit p k sh hp hk w
  have hd0 : ∀ w : World, Calls Try.prog 33 #[.int .i64 p, .int .i64 12] w fun e w' => e = .returned (.int .i64 (dg p 0)) ∧ w' = w := fun w => pdigit p 0 12 hp (by omega) w
  have hl0 := dg_lt p 0
  go_enter Try.func31, Try.ntmps31
  go_wp2
  go_quiet ((go_at_call 33; exact (hd0 _).mono fun e w' h => ⟨h.1, _, h.2⟩))
  go_wp2
  go_loopw [6, 7] (fun s6 s7 wr => ∃ (k b sh d : Nat), s6 = .int .i64 sh ∧ s7 = .pointer (some ⟨b, dg p k * 3, none⟩) ∧ k ≤ 3 ∧ sh + 4 * k = 12 ∧ N k (pg p k) = some b ∧ wr = w.drewN d) (fun s6 _ _ => (intOf s6).toNat)
  case atStart => exact ⟨0, t, 12, _, rfl, by simp, by omega, by omega, by rw [pg_zero hp]; exact h.t0, rfl⟩
  case round =>
    clear hd0 hl0
    obtain ⟨k, b, sh, d, rfl, rfl, hk, hsh, hb, rfl⟩ := hrel
    have hl := dg_lt p k
    have hc := h.cell hb hl (j := 0) (by omega)
    rw [Nat.add_zero, ← pg_step p hk] at hc
    cases hn : N (k + 1) (pg p (k + 1)) with
    | none =>
      rw [hn] at hc
      have hc' : w.cell? ⟨b, dg p k * 3, none⟩ = some (.pointer none) := hc
      clear hc
      have HN : Hid (N (k + 1) (pg p (k + 1)) = none) := hn
      have HB : Hid (N k (pg p k) = some b) := hb
      clear hn hb
      go_wp2
      go_ret2
      exact ⟨k, b, sh, d, rfl, hk, hsh, HB.out, HN.out, rfl⟩
    | some c =>
      rw [hn] at hc
      have hc' : w.cell? ⟨b, dg p k * 3, none⟩ = some (.pointer (some ⟨c, 0, none⟩)) := hc
      clear hc
      have hk3 : k + 1 ≤ 3 := h.lim _ _ (by rw [hn]; simp)
      have HN : Hid (N (k + 1) (pg p (k + 1)) = some c) := hn
      clear hn hb
      obtain ⟨sh', rfl⟩ : ∃ s, sh = s + 4 := ⟨sh - 4, by omega⟩
      have hl1 := dg_lt p (k + 1)
      have hd1 : ∀ w : World, Calls Try.prog 33 #[.int .i64 p, .int .i64 sh'] w fun e w' => e = .returned (.int .i64 (dg p (k + 1))) ∧ w' = w := fun w => hd w (k + 1) sh' (by omega)
      go_wp2
      go_quiet ((go_at_call 33; exact (hd1 _).mono fun e w' h => ⟨h.1, _, h.2⟩))
      go_wp2
      exact ⟨⟨k + 1, c, sh', _, rfl, rfl, hk3, by omega, HN.out, World.drewN_drewN _ _ _⟩, by simp [intOf]; omega⟩

/-- What a page has, as Get tells it. -/
def getX (W : Tab) (x : Int) : Int := if 0 ≤ x then (W x.toNat).getD 0 else 0
def getB (W : Tab) (x : Int) : Bool := if 0 ≤ x then (W x.toNat).isSome else false
theorem getX_nat (W : Tab) (p : Nat) : getX W p = (W p).getD 0 := by simp [getX]
theorem getB_nat (W : Tab) (p : Nat) : getB W p = (W p).isSome := by simp [getB]
theorem get_no {W : Tab} (hf : Fits W) {x : Int} (h : ¬ (0 ≤ x ∧ x < 65536)) : getX W x = 0 ∧ getB W x = false := by
  unfold getX getB
  by_cases h0 : 0 ≤ x
  · have : W x.toNat = none := by
      cases hw : W x.toNat with
      | none => rfl
      | some y =>
        have := hf x.toNat (by rw [hw]; simp)
        omega
    simp [h0, this]
  · simp [h0]

set_option maxHeartbeats 1000000 in
theorem pget (t : Nat) (N : Nds) (W : Tab) (n m : Int) (x : Int) (w : World) (h : Heap w t N W n m) :
    Calls Try.prog 16 #[.pointer (some ⟨t, 0, none⟩), .int .i64 x] w fun e w' => e = .returned (.tuple #[.int .u64 (getX W x), .bool (getB W x)]) ∧ ∃ d, w' = w.drewN d := by
  by_cases hx : 0 ≤ x ∧ x < 65536
  · obtain ⟨p, rfl⟩ := Int.eq_ofNat_of_zero_le hx.1
    have hp : p < 65536 := by omega
    have e1 : (decide (0 ≤ (p : Int)) && decide ((p : Int) < 65536)) = true := by simp; omega
    rw [getX_nat, getB_nat]
    clear hx
    go_enter Try.func16, Try.ntmps16
    go_wp2_with fail
    refine (pispage _ _).mono ?_
    rintro e w1 ⟨rfl, rfl⟩
    rw [e1]
    go_wp2_with fail
    refine (pfind t N W n m p hp _ h).mono ?_
    rintro e w2 ⟨k, b, sh, d, rfl, hk, hsh, hb, hn, rfl⟩
    have hl := dg_lt p k
    have hc1 := h.cell hb hl (j := 1) (by omega)
    have hc2 := h.cell hb hl (j := 2) (by omega)
    rw [← pg_step p hk, hn, h.ends hk hn] at hc1 hc2
    have c1 : w1.cell? ⟨b, dg p k * 3 + 1, none⟩ = some (.int .u64 ((W p).getD 0)) := hc1
    have c2 : w1.cell? ⟨b, dg p k * 3 + 2, none⟩ = some (.bool (W p).isSome) := hc2
    clear hc1 hc2 hn hb
    go_wp2
    go_quiet (fail)
    go_wp2
    go_ret2
    exact ⟨rfl, _, World.drewN_drewN _ _ _⟩
  · obtain ⟨h1, h2⟩ := get_no h.fits hx
    have e1 : (decide (0 ≤ x) && decide (x < 65536)) = false := by
      cases hq : (decide (0 ≤ x) && decide (x < 65536))
      · rfl
      · simp at hq; exact absurd hq hx
    rw [h1, h2]
    clear hx h1 h2
    go_enter Try.func16, Try.ntmps16
    go_wp2_with fail
    refine (pispage _ _).mono ?_
    rintro e w1 ⟨rfl, rfl⟩
    rw [e1]
    go_wp2
    go_ret2
    exact ⟨rfl, 0, rfl⟩
theorem plen (t : Nat) (N : Nds) (W : Tab) (n m : Int) (w : World) (h : Heap w t N W n m) :
    Calls Try.prog 18 #[.pointer (some ⟨t, 0, none⟩)] w fun e w' => e = .returned (.int .i64 n) ∧ w' = w := by
  have hc := h.words
  go_enter Try.func18, Try.ntmps18
  go_wp2
  go_ret
  exact ⟨rfl, rfl⟩
theorem pnodes (t : Nat) (N : Nds) (W : Tab) (n : Int) (m : Nat) (hm : m < 1000000) (w : World) (h : Heap w t N W n m) :
    Calls Try.prog 19 #[.pointer (some ⟨t, 0, none⟩)] w fun e w' => e = .returned (.int .i64 (1 + (m : Int))) ∧ w' = w := by
  have hc := h.others
  go_enter Try.func19, Try.ntmps19
  go_wp2
  go_ret
  exact ⟨by go_num, rfl⟩
theorem empty48 : emptyRow = List.flatten (List.replicate 16 [.pointer none, .int .u64 0, .bool false]) := by rfl
theorem pnew (w : World) :
    Calls Try.prog 11 #[] w fun e w' => e = .returned (.pointer (some ⟨w.heap.size, 0, none⟩)) ∧ Heap w' w.heap.size (fun k q => if k = 0 ∧ q = 0 then some w.heap.size else none) (fun _ => none) 0 0 ∧ Below w.heap.size w w' := by
  go_enter Try.func11, Try.ntmps11
  go_wp2
  go_ret
  refine ⟨rfl, ?_, below_alloc _ _⟩
  refine ⟨?_, ?_, ?_, ?_, ?_, ?_, ?_⟩
  · intro q; simp
  · intro k q b h
    simp at h
    obtain ⟨⟨rfl, rfl⟩, rfl⟩ := h
    exact RowAt.new w _ 53
  · intro k q k' q' b h1 h2
    simp at h1 h2
    omega
  · intro k q h; simp at h; omega
  · intro k q h; simp at h
  · intro p h; exact absurd rfl h
  · intro p h; exact absurd rfl h
end Go.Proofs.Ytaecacbapeogdaa
