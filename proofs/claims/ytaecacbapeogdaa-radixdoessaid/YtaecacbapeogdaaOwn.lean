/-
  Tables that a law made, told with what lies below them; the document's examples.
-/
import Derived.Test.YtaecacbapeogdaaP9
namespace Go.Proofs.Ytaecacbapeogdaa
open Go.RowKit

/-- Rows of ints stay as they are. -/
def Rk (w w' : World) : Prop := ∀ B v k xs, w.ownsRow B 3 1 v k xs → w'.ownsRow B 3 1 v k xs
theorem Rk.refl (w : World) : Rk w w := fun _ _ _ _ h => h
theorem Rk.trans {u v w : World} (h : Rk u v) (k : Rk v w) : Rk u w := fun B x n xs hh => k B x n xs (h B x n xs hh)
theorem Rk.below {w w' : World} (hb : Below w.heap.size w w') : Rk w w' := fun _ _ _ _ h => own_below h hb
theorem Rk.drewN (w : World) (d : Nat) : Rk w (w.drewN d) := fun _ _ _ _ h => own_turn h fun _ _ _ => rfl
def noT : Tab := fun _ => none
def N0 (t : Nat) : Nds := fun k q => if k = 0 ∧ q = 0 then some t else none
theorem ptab_new (w : World) : Calls Try.prog 11 #[] w fun e w' => e = .returned (.pointer (some ⟨w.heap.size, 0, none⟩)) ∧ TabIs w' w.heap.size (N0 w.heap.size) noT 0 0 ∧ Below w.heap.size w w' := by
  refine (pnew w).mono fun e w' ⟨h1, h2, h3⟩ => ⟨h1, ⟨h2, ?_, ⟨IsCnt.none fun x h => h rfl, IsCnt.none fun x h => ?_⟩⟩, h3⟩
  · intro k q
    unfold N0
    constructor
    · intro h
      simp at h
      exact .inl h
    · rintro (⟨rfl, rfl⟩ | ⟨_, p, hp, _⟩)
      · simp
      · exact absurd rfl hp
  · obtain ⟨_, p, hp, _⟩ := h
    exact absurd rfl hp

/-- A table made since w0; what lay there ahead is as it was. -/
def Tb (w0 w : World) (t : Nat) (W : Tab) (n m : Nat) : Prop := ∃ N, TabIs w t N W n m ∧ Below w0.heap.size w0 w ∧ ∀ b, In N b → w0.heap.size ≤ b
section
variable {w0 w w' : World} {t : Nat} {W : Tab} {n m : Nat}
theorem Tb.bel (h : Tb w0 w t W n m) : Below w0.heap.size w0 w := by obtain ⟨N, h1, h2, h3⟩ := h; exact h2
theorem Tb.cnt (h : Tb w0 w t W n m) : Cnts W n m := by obtain ⟨N, h1, h2, h3⟩ := h; exact h1.cnt
theorem Tb.fits (h : Tb w0 w t W n m) : Fits W := by obtain ⟨N, h1, h2, h3⟩ := h; exact h1.heap.fits
theorem Tb.grow (h : Tb w0 w t W n m) (hb : Below w.heap.size w w') : Tb w0 w' t W n m := by
  obtain ⟨N, h1, h2, h3⟩ := h
  exact ⟨N, h1.below hb, h2.trans (hb.mono h2.size), h3⟩
theorem Tb.drewN (h : Tb w0 w t W n m) (d : Nat) : Tb w0 (w.drewN d) t W n m := by
  obtain ⟨N, h1, h2, h3⟩ := h
  exact ⟨N, h1.drewN d, below_drawn h2 d, h3⟩
theorem newT (hb : Below w0.heap.size w0 w) : Calls Try.prog 11 #[] w fun e w' => ∃ t, e = .returned (.pointer (some ⟨t, 0, none⟩)) ∧ Tb w0 w' t noT 0 0 ∧ Below w.heap.size w w' := by
  refine (ptab_new w).mono fun e w' ⟨h1, h2, h3⟩ => ⟨_, h1, ⟨_, h2, hb.trans (h3.mono hb.size), ?_⟩, h3⟩
  rintro b ⟨k, q, hq⟩
  unfold N0 at hq
  split at hq
  · injection hq with hq
    rw [← hq]; exact hb.size
  · cases hq
theorem setT (x v : Int) (h : Tb w0 w t W n m) (hn : n < 100000) :
    Calls Try.prog 14 #[.pointer (some ⟨t, 0, none⟩), .int .i64 x, .int .u64 v] w fun e w' => ∃ n' m', e = .returned (.int .i64 (setE x)) ∧ Tb w0 w' t (setI W x v) n' m' ∧ n' ≤ n + 1 ∧ Rk w w' := by
  obtain ⟨N, h1, h2, h3⟩ := h
  refine (pset t N W n m x v hn w h1).mono fun e w' ⟨N', n', m', k1, k2, k3, k4, k5⟩ => ⟨n', m', k1, ⟨N', k2, h2.trans (k4.below h3 h2.size), ?_⟩, k3, fun B v k xs hr => own_tab hr rfl h1.heap k4⟩
  intro b hb
  rcases k5 b hb with h4 | h4
  · exact h3 b h4
  · exact Nat.le_trans h2.size h4
theorem dropT (x : Int) (h : Tb w0 w t W n m) (hn : n < 100000) :
    Calls Try.prog 12 #[.pointer (some ⟨t, 0, none⟩), .int .i64 x] w fun e w' => ∃ n' m', e = .returned (.bool (getB W x)) ∧ Tb w0 w' t (delI W x) n' m' ∧ n' ≤ n ∧ Rk w w' := by
  obtain ⟨N, h1, h2, h3⟩ := h
  exact (pdropT t N W n m x hn w h1).mono fun e w' ⟨N', n', m', k1, k2, k3, k4, k5⟩ => ⟨n', m', k1, ⟨N', k2, h2.trans (k4.below h3 h2.size), fun b hb => h3 b (k5 b hb)⟩, k3, fun B v k xs hr => own_tab hr rfl h1.heap k4⟩
theorem getT (x : Int) (h : Tb w0 w t W n m) :
    Calls Try.prog 16 #[.pointer (some ⟨t, 0, none⟩), .int .i64 x] w fun e w' => e = .returned (.tuple #[.int .u64 (getX W x), .bool (getB W x)]) ∧ ∃ d, w' = w.drewN d := by
  obtain ⟨N, h1, h2, h3⟩ := h
  exact pget t N W n m x w h1.heap
theorem lenT (h : Tb w0 w t W n m) : Calls Try.prog 18 #[.pointer (some ⟨t, 0, none⟩)] w fun e w' => e = .returned (.int .i64 n) ∧ w' = w := by
  obtain ⟨N, h1, h2, h3⟩ := h
  exact plen t N W n m w h1.heap
theorem nodesT (h : Tb w0 w t W n m) (hn : n < 100000) : Calls Try.prog 19 #[.pointer (some ⟨t, 0, none⟩)] w fun e w' => e = .returned (.int .i64 (1 + (m : Int))) ∧ w' = w := by
  obtain ⟨N, h1, h2, h3⟩ := h
  have := h1.cnt.le3
  exact pnodes t N W n m (by omega) w h1.heap
theorem walkT (a b : Int) (h : Tb w0 w t W n m) (hn : n < 100000) :
    Calls Try.prog 22 #[.pointer (some ⟨t, 0, none⟩), .int .i64 a, .int .i64 b] w fun e w' => ∃ v l, e = .returned v ∧ IsWalk W a b l ∧ w'.ownsRow w.heap.size 3 1 v l.length (l.map iv) ∧ Below w.heap.size w w' ∧ Tb w0 w' t W n m ∧ l.length ≤ n := by
  have h' := h
  obtain ⟨N, h1, h2, h3⟩ := h
  exact (pwalk t N W n m a b hn w h1).mono fun e w' ⟨v, l, k1, k2, k3, k4⟩ => ⟨v, l, k1, k2, k3, k4, h'.grow k4, k2.short h1.cnt⟩
end

/-! ### the examples -/
theorem eg_path : pathL 4660 = [1, 2, 3, 4] := by
  have := pathL_nat (p := 4660) (by omega)
  rw [dg_0, dg_1, dg_2, dg_3] at this
  exact this
theorem eg_set : setI noT 4660 9 = setW noT 4660 9 := by
  have : isPg 4660 = true := by decide
  unfold setI
  rw [this]
  rfl
theorem eg_getX : getX (setW noT 4660 9) 4660 = 9 := (getX_nat (setW noT 4660 9) 4660).trans (by rw [setW_same]; rfl)
theorem eg_getB : getB (setW noT 4660 9) 4660 = true := (getB_nat (setW noT 4660 9) 4660).trans (by rw [setW_same]; rfl)
theorem eg_ne {q : Nat} : setW noT 4660 9 q ≠ none ↔ q = 4660 := by
  rw [setW_ne]
  constructor
  · rintro (h | h)
    · exact absurd rfl h
    · exact h
  · exact .inr
theorem eg_cnt {n m : Nat} (h : Cnts (setW noT 4660 9) n m) : n = 1 ∧ m = 3 := by
  have h1 : IsCnt (fun q : Nat => q = 4660) 1 := ⟨[4660], by simp, rfl, fun x => by simp⟩
  have hn := h.n.unique h1 fun x => eg_ne
  have := h.le3
  have := h.ge3 (by omega)
  omega
theorem eg_walk {l : List Nat} (h : IsWalk (setW noT 4660 9) 0 65536 l) : l = [4660] := by
  refine sorted_unique h.up (by simp) fun p => ?_
  rw [h.mem, eg_ne]
  simp
  omega

set_option maxRecDepth 100000 in
set_option maxHeartbeats 2000000 in
theorem works_any (w : World) : Calls Try.prog 10 #[] w fun e w' => e = .returned (.bool true) ∧ Below w.heap.size w w' := by
  go_enter Try.func10, Try.ntmps10
  go_wp2_with fail
  refine (newT (Below.refl _ w)).mono ?_
  rintro e w1 ⟨t, rfl, h1, -⟩
  go_wp2_with fail
  refine (ppath 4660 _).mono ?_
  rintro e w2 ⟨v, rfl, hr, hb⟩
  rw [eg_path] at hr
  have h2 := h1.grow hb
  clear h1 hb
  go_wp2_with fail
  refine (setT 4660 9 h2 (by omega)).mono ?_
  rintro e w3 ⟨n, m, rfl, h3, -, hk⟩
  rw [eg_set] at h3
  have hr3 := hk _ _ _ _ hr
  obtain ⟨rfl, rfl⟩ := eg_cnt h3.cnt
  have hE : setE 4660 = 0 := by decide
  rw [hE]
  clear h2 hr hk hE
  go_wp2_with fail
  refine (getT 4660 h3).mono ?_
  rintro e w4 ⟨rfl, d, rfl⟩
  rw [eg_getX, eg_getB]
  have h4 := h3.drewN d
  have hr4 := Rk.drewN w3 d _ _ _ _ hr3
  clear h3 hr3
  go_wp2_with fail
  refine (walkT 0 65536 h4 (by omega)).mono ?_
  rintro e w5 ⟨u, l, rfl, hw, hl, hb5, h5, -⟩
  rw [eg_walk hw] at hl
  have hr5 := own_below hr4 hb5
  clear h4 hr4 hb5 hw
  obtain ⟨g0, c0, rfl, p0⟩ := own_cell hr5 (i := 0) (by simp)
  obtain ⟨g3, c3, e3, p3⟩ := own_cell hr5 (i := 3) (by simp)
  injection e3 with e3 _ e4
  injection e3 with e3
  injection e3 with e3
  subst e3
  subst e4
  obtain ⟨g1, c1, rfl, q0⟩ := own_cell hl (i := 0) (by simp)
  have p0' : w5.cell? ⟨g0, 0, none⟩ = some (.int .i64 1) := p0
  have p3' : w5.cell? ⟨g0, 3, none⟩ = some (.int .i64 4) := p3
  have q0' : w5.cell? ⟨g1, 0, none⟩ = some (.int .i64 4660) := q0
  have l4 : ([1, 2, 3, 4] : List Nat).length = 4 := rfl
  have l1 : ([4660] : List Nat).length = 1 := rfl
  rw [l4, l1]
  clear p0 p3 q0 hr5 hl l4 l1
  go_wp2_with fail
  refine (nodesT h5 (by omega)).mono ?_
  rintro e w6 ⟨rfl, rfl⟩
  go_wp2_with fail
  refine (lenT h5).mono ?_
  rintro e w6 ⟨rfl, rfl⟩
  go_wp2
  go_ret
  exact ⟨rfl, h5.bel⟩
end Go.Proofs.Ytaecacbapeogdaa
