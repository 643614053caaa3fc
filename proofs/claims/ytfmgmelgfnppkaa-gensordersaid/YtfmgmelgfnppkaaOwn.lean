/-
  The program's lists since a world, and each call's contract that takes them to themselves; one act done.
-/
import Derived.Test.YtfmgmelgfnppkaaR6
namespace Go.Proofs.Ytfmgmelgfnppkaa
open Go.RowKit

structure Ow (w0 w : World) (t m : Nat) (L : List En) : Prop where
  ls : LsIs w t m L
  lo : w0.heap.size ≤ t ∧ w0.heap.size ≤ m
  bel : Below w0.heap.size w0 w
section
variable {w0 w w' : World} {t m : Nat} {L L' : List En}
theorem Ow.later (h : Ow w0 w t m L) (hb : Below w.heap.size w w') : Ow w0 w' t m L := ⟨h.ls.below hb, h.lo, bel_trans h.bel hb (Nat.le_refl _)⟩
theorem Ow.turned (h : Ow w0 w t m L) (h1 : LsIs w' t m L') (ha : Apart m w w') : Ow w0 w' t m L' := ⟨h1, h.lo, h.bel.trans (ha.below h.lo.2 h.bel.size)⟩
theorem Ints.apart {a : Option Addr} {N : List Int} (h : Ints w a N) (hm : MapIs w m L) (ha : Apart m w w') : Ints w' a N := by
  refine ⟨fun j hj => ?_, h.wf⟩
  obtain ⟨b, off, rfl, h1⟩ := h.at' j hj
  refine ⟨b, off, rfl, ?_⟩
  have hne : b ≠ m := by
    rintro rfl
    obtain ⟨D, ⟨es, clock, h2, _⟩, _⟩ := hm
    simp [World.cell?, h2] at h1
  have hlt := block_lt_of_cell (a := ⟨b, off + j, none⟩) h1
  rw [World.cell?_of_block (w := w) (w' := w') (a := ⟨b, off + j, none⟩) (ha.block b hlt hne)]
  exact h1
end
def iL (L : List En) (G : List Int) : List Int := (ordL L G).map (·.i)

section
variable {w0 w : World} {t m : Nat} {L : List En}
theorem newO (hb : Below w0.heap.size w0 w) : Calls Try.prog 10 #[] w fun e w' => ∃ t m, e = .returned (.pointer (some ⟨t, 0, none⟩)) ∧ Ow w0 w' t m [] ∧ Below w.heap.size w w' :=
  (pnew w).mono fun _ _ ⟨t, m, he, h1, h2, h3, h4⟩ => ⟨t, m, he, ⟨h1, ⟨Nat.le_trans hb.size h3, Nat.le_trans hb.size h4⟩, bel_trans hb h2 (Nat.le_refl _)⟩, h2⟩
theorem addO (h : Ow w0 w t m L) (hL : L.length < 1000000) (i g : Int) (o : Bool) : Calls Try.prog 25 #[.pointer (some ⟨t, 0, none⟩), .int .i64 i, .int .i64 g, .bool o] w fun e w' => e = .returned (.int .i64 (addE L i g)) ∧ Ow w0 w' t m (addL L i g o) ∧ Apart m w w' :=
  (padd t m L i g o w h.ls hL).mono fun _ _ ⟨he, h1, h2⟩ => ⟨he, h.turned h1 h2, h2⟩
theorem dropO (h : Ow w0 w t m L) {i : Int} (hi : (Lit.int .i64 i).wf = true) : Calls Try.prog 24 #[.pointer (some ⟨t, 0, none⟩), .int .i64 i] w fun e w' => e = .returned (.int .i64 (noneE L i)) ∧ Ow w0 w' t m (dropL L i) ∧ Apart m w w' :=
  (pdrop t m L i w h.ls hi).mono fun _ _ ⟨he, h1, h2⟩ => ⟨he, h.turned h1 h2, h2⟩
theorem touchO (h : Ow w0 w t m L) (hL : L.length < 1000000) {i : Int} (hi : (Lit.int .i64 i).wf = true) : Calls Try.prog 21 #[.pointer (some ⟨t, 0, none⟩), .int .i64 i] w fun e w' => e = .returned (.int .i64 (noneE L i)) ∧ Ow w0 w' t m (touchL L i) ∧ Apart m w w' :=
  (ptouch t m L i w h.ls hi hL).mono fun _ _ ⟨he, h1, h2⟩ => ⟨he, h.turned h1 h2, h2⟩
theorem ageO (h : Ow w0 w t m L) (hL : L.length < 1000000) (g : Int) : Calls Try.prog 22 #[.pointer (some ⟨t, 0, none⟩), .int .i64 g] w fun e w' => e = .returned (.int .i64 (ageN L g : Nat)) ∧ Ow w0 w' t m (ageL L g) ∧ Apart m w w' :=
  (page t m L g w h.ls hL).mono fun _ _ ⟨he, h1, h2⟩ => ⟨he, h.turned h1 h2, h2⟩
theorem moveO (h : Ow w0 w t m L) (hL : L.length < 1000000) (f b : Int) : Calls Try.prog 23 #[.pointer (some ⟨t, 0, none⟩), .int .i64 f, .int .i64 b] w fun e w' => e = .returned (.int .i64 (moveN L f b : Nat)) ∧ Ow w0 w' t m (moveL L f b) ∧ Apart m w w' :=
  (pmove t m L f b w h.ls hL).mono fun _ _ ⟨he, h1, h2⟩ => ⟨he, h.turned h1 h2, h2⟩
theorem groupO (h : Ow w0 w t m L) {i : Int} (hi : (Lit.int .i64 i).wf = true) : Calls Try.prog 19 #[.pointer (some ⟨t, 0, none⟩), .int .i64 i] w fun e w' => e = .returned (.int .i64 (grpN L i)) ∧ Ow w0 w' t m L ∧ Below w.heap.size w w' :=
  (pgroup t m L i w h.ls hi).mono fun _ _ ⟨he, hb⟩ => ⟨he, h.later hb, hb⟩
theorem oldO (h : Ow w0 w t m L) {i : Int} (hi : (Lit.int .i64 i).wf = true) : Calls Try.prog 20 #[.pointer (some ⟨t, 0, none⟩), .int .i64 i] w fun e w' => e = .returned (.int .i64 (oldN L i)) ∧ Ow w0 w' t m L ∧ Below w.heap.size w w' :=
  (poldness t m L i w h.ls hi).mono fun _ _ ⟨he, hb⟩ => ⟨he, h.later hb, hb⟩
theorem countO (h : Ow w0 w t m L) (hL : L.length < 1000000) (g : Int) : Calls Try.prog 14 #[.pointer (some ⟨t, 0, none⟩), .int .i64 g] w fun e w' => e = .returned (.int .i64 (cntL L g : Nat)) ∧ Ow w0 w' t m L ∧ Below w.heap.size w w' :=
  (pcount t m L g w h.ls hL).mono fun _ _ ⟨he, hb⟩ => ⟨he, h.later hb, hb⟩
theorem orderO (h : Ow w0 w t m L) (hL : L.length < 1000000) {a : Option Addr} (cap : Nat) {G : List Int} (hG : Ints w a G) (hGl : G.length < 1000000) : Calls Try.prog 17 #[.pointer (some ⟨t, 0, none⟩), .slice a G.length cap] w fun e w' => ∃ a' c' N, N = iL L G ∧ e = .returned (.slice a' N.length c') ∧ Ints w' a' N ∧ Ow w0 w' t m L ∧ Below w.heap.size w w' :=
  (porder t m L a cap G w h.ls hG hL hGl).mono fun _ _ ⟨a', c', N, h1, h2, h3, h4⟩ => ⟨a', c', N, h1, h2, h3, h.later h4, h4⟩
end

theorem hid {p : Prop} (h : p) : Hid p := h

/-! ### one act -/
structure Ac where
  k : Int
  id : Int
  g : Int
  o : Bool
structure AcW (r : Ac) : Prop where
  id : (Lit.int .i64 r.id).wf = true
def kd (r : Ac) : Int := r.k.tmod 6
def doA (L : List En) (r : Ac) : List En := if kd r = 1 then dropL L r.id else if kd r = 2 then touchL L r.id else if kd r = 3 then ageL L r.g else if kd r = 4 then moveL L r.id r.g else addL L r.id r.g r.o
def doR (L : List En) (r : Ac) : Int := if kd r = 1 then noneE L r.id else if kd r = 2 then noneE L r.id else if kd r = 3 then (ageN L r.g : Nat) else if kd r = 4 then (moveN L r.id r.g : Nat) else addE L r.id r.g
theorem doA_ok {L : List En} (h : Ok L) (r : Ac) : Ok (doA L r) := by
  unfold doA
  split
  · exact dropL_ok h _
  · split
    · exact touchL_ok h _
    · split
      · exact ageL_ok h _
      · split
        · exact moveL_ok h _ _
        · exact addL_ok h _ _ _
theorem doA_len (L : List En) (r : Ac) : (doA L r).length ≤ L.length + 1 := by
  unfold doA
  split
  · have := dropL_len L r.id; omega
  · split
    · simp [touchL, turn_len]
    · split
      · simp [ageL, turn_len]
      · split
        · rw [moveL_len]; omega
        · exact addL_len _ _ _ _
theorem kd_ways (r : Ac) : (r.k.tmod 6 == 1) = true ∨ ((r.k.tmod 6 == 1) = false ∧ (r.k.tmod 6 == 2) = true) ∨ ((r.k.tmod 6 == 1) = false ∧ (r.k.tmod 6 == 2) = false ∧ (r.k.tmod 6 == 3) = true) ∨ ((r.k.tmod 6 == 1) = false ∧ (r.k.tmod 6 == 2) = false ∧ (r.k.tmod 6 == 3) = false ∧ (r.k.tmod 6 == 4) = true) ∨ ((r.k.tmod 6 == 1) = false ∧ (r.k.tmod 6 == 2) = false ∧ (r.k.tmod 6 == 3) = false ∧ (r.k.tmod 6 == 4) = false) := by
  cases (r.k.tmod 6 == 1) <;> cases (r.k.tmod 6 == 2) <;> cases (r.k.tmod 6 == 3) <;> cases (r.k.tmod 6 == 4) <;> simp
def acV (r : Ac) : Value := .agg #[.int .i64 r.k, .int .i64 r.id, .int .i64 r.g, .bool r.o]

set_option maxHeartbeats 2000000 in
theorem doO {w0 w : World} {t m : Nat} {L : List En} (h : Ow w0 w t m L) (hL : L.length < 900000) (r : Ac) (hr : AcW r) :
    Calls Try.prog 11 #[.pointer (some ⟨t, 0, none⟩), .agg #[.int .i64 r.k, .int .i64 r.id, .int .i64 r.g, .bool r.o]] w fun e w' => e = .returned (.int .i64 (doR L r)) ∧ Ow w0 w' t m (doA L r) ∧ Apart m w w' := by
  obtain ⟨K, I, G, O⟩ := r
  have h1 := h.later (below_alloc w (.cells #[.int .i64 K, .int .i64 I, .int .i64 G, .bool O] 33))
  have HA : Hid (Apart m w (w.alloc (.cells #[.int .i64 K, .int .i64 I, .int .i64 G, .bool O] 33))) := Apart.ofBelow (below_alloc _ _)
  have C1 := hid (dropO h1 (i := I) hr.id)
  have C2 := hid (touchO h1 (by omega) (i := I) hr.id)
  have C3 := hid (ageO h1 (by omega) G)
  have C4 := hid (moveO h1 (by omega) I G)
  have C5 := hid (addO h1 (by omega) I G O)
  have hway := kd_ways ⟨K, I, G, O⟩
  simp only at hway ⊢
  clear h h1
  rcases hway with q1 | ⟨q1, q2⟩ | ⟨q1, q2, q3⟩ | ⟨q1, q2, q3, q4⟩ | ⟨q1, q2, q3, q4⟩
  · have E1 : Hid (doR L ⟨K, I, G, O⟩ = noneE L I) := by
      show _ = _
      have : K.tmod 6 = 1 := by simpa using q1
      simp [doR, kd, this]
    have E2 : Hid (doA L ⟨K, I, G, O⟩ = dropL L I) := by
      show _ = _
      have : K.tmod 6 = 1 := by simpa using q1
      simp [doA, kd, this]
    go_enter Try.func11, Try.ntmps11
    go_wp2_with fail
    refine C1.out.mono ?_
    rintro e w1 ⟨rfl, h1, h2⟩
    go_wp2_with fail
    go_ret
    exact ⟨by rw [E1.out]; rfl, by rw [E2.out]; exact h1, HA.out.trans h2⟩
  · have E1 : Hid (doR L ⟨K, I, G, O⟩ = noneE L I) := by
      show _ = _
      have : K.tmod 6 = 2 := by simpa using q2
      simp [doR, kd, this]
    have E2 : Hid (doA L ⟨K, I, G, O⟩ = touchL L I) := by
      show _ = _
      have : K.tmod 6 = 2 := by simpa using q2
      simp [doA, kd, this]
    go_enter Try.func11, Try.ntmps11
    go_wp2_with fail
    refine C2.out.mono ?_
    rintro e w1 ⟨rfl, h1, h2⟩
    go_wp2_with fail
    go_ret
    exact ⟨by rw [E1.out]; rfl, by rw [E2.out]; exact h1, HA.out.trans h2⟩
  · have E1 : Hid (doR L ⟨K, I, G, O⟩ = (ageN L G : Nat)) := by
      show _ = _
      have : K.tmod 6 = 3 := by simpa using q3
      simp [doR, kd, this]
    have E2 : Hid (doA L ⟨K, I, G, O⟩ = ageL L G) := by
      show _ = _
      have : K.tmod 6 = 3 := by simpa using q3
      simp [doA, kd, this]
    go_enter Try.func11, Try.ntmps11
    go_wp2_with fail
    refine C3.out.mono ?_
    rintro e w1 ⟨rfl, h1, h2⟩
    go_wp2_with fail
    go_ret
    exact ⟨by rw [E1.out]; rfl, by rw [E2.out]; exact h1, HA.out.trans h2⟩
  · have E1 : Hid (doR L ⟨K, I, G, O⟩ = (moveN L I G : Nat)) := by
      show _ = _
      have : K.tmod 6 = 4 := by simpa using q4
      simp [doR, kd, this]
    have E2 : Hid (doA L ⟨K, I, G, O⟩ = moveL L I G) := by
      show _ = _
      have : K.tmod 6 = 4 := by simpa using q4
      simp [doA, kd, this]
    go_enter Try.func11, Try.ntmps11
    go_wp2_with fail
    refine C4.out.mono ?_
    rintro e w1 ⟨rfl, h1, h2⟩
    go_wp2_with fail
    go_ret
    exact ⟨by rw [E1.out]; rfl, by rw [E2.out]; exact h1, HA.out.trans h2⟩
  · have E1 : Hid (doR L ⟨K, I, G, O⟩ = addE L I G) := by
      show _ = _
      simp only [beq_eq_false_iff_ne] at q1 q2 q3 q4
      simp [doR, kd, q1, q2, q3, q4]
    have E2 : Hid (doA L ⟨K, I, G, O⟩ = addL L I G O) := by
      show _ = _
      simp only [beq_eq_false_iff_ne] at q1 q2 q3 q4
      simp [doA, kd, q1, q2, q3, q4]
    go_enter Try.func11, Try.ntmps11
    go_wp2_with fail
    refine C5.out.mono ?_
    rintro e w1 ⟨rfl, h1, h2⟩
    go_wp2_with fail
    go_ret
    exact ⟨by rw [E1.out]; rfl, by rw [E2.out]; exact h1, HA.out.trans h2⟩
end Go.Proofs.Ytfmgmelgfnppkaa
