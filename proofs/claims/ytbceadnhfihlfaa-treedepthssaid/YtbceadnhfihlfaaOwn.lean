/-
  A tree that a law made, told with what lies below it; the document's example.
-/
import Derived.Test.YtbceadnhfihlfaaR4
namespace Go.Proofs.Ytbceadnhfihlfaa
open Go.RowKit

theorem TreeIs.lower {B B' : Nat} {w : World} {t : Nat} {G : Gr} (h : TreeIs B w t G) (hb : B' ≤ B) : TreeIs B' w t G := by
  obtain ⟨v, h1, h2⟩ := h.h
  exact ⟨⟨v, h1, own_mono h2 hb⟩, Nat.le_trans hb h.lo, h.ok⟩
theorem RefIs.lower {B B' : Nat} {w : World} {t : Nat} {G : Gr} (h : RefIs B w t G) (hb : B' ≤ B) : RefIs B' w t G := by
  obtain ⟨vU, vH, U, h1, h2, h3, h4⟩ := h.h
  exact ⟨⟨vU, vH, U, h1, own_mono h2 hb, own_mono h3 hb, h4⟩, Nat.le_trans hb h.lo, h.ok⟩

/-- A tree made since w0; what lay there ahead is as it was. -/
structure Tr (w0 w : World) (t : Nat) (G : Gr) : Prop where
  is : TreeIs w0.heap.size w t G
  bel : Below w0.heap.size w0 w
section
variable {w0 w w' : World} {t : Nat} {G : Gr}
theorem Tr.ok (h : Tr w0 w t G) : Ok G := h.is.ok
theorem Tr.grow (h : Tr w0 w t G) (hb : Below w.heap.size w w') : Tr w0 w' t G := ⟨h.is.below hb, bel_trans h.bel hb (Nat.le_refl _)⟩
theorem newT (hb : Below w0.heap.size w0 w) : Calls Try.prog 9 #[] w fun e w' => ∃ t, e = .returned (.pointer (some ⟨t, 0, none⟩)) ∧ Tr w0 w' t newG ∧ Below w.heap.size w w' :=
  (pnew w).mono fun _ _ ⟨t, h1, h2, h3⟩ => ⟨t, h1, ⟨h2.lower hb.size, bel_trans hb h3 (Nat.le_refl _)⟩, h3⟩
theorem addT (p : Int) (h : Tr w0 w t G) : Calls Try.prog 13 #[.pointer (some ⟨t, 0, none⟩), .int .i64 p] w fun e w' => e = .returned (.tuple #[.int .i64 (addN G p), .int .i64 (addE G p)]) ∧ Tr w0 w' t (addG G p) ∧ Ty pt w w' :=
  (padd _ t G p w h.is).mono fun _ _ ⟨h1, h2, h3, h4⟩ => ⟨h1, ⟨h2, h.bel.trans h3⟩, h4⟩
theorem remT (g : Int) (h : Tr w0 w t G) : Calls Try.prog 11 #[.pointer (some ⟨t, 0, none⟩), .int .i64 g] w fun e w' => e = .returned (.int .i64 (remE G g)) ∧ Tr w0 w' t (remG G g) ∧ Ty pt w w' :=
  (prem _ t G g w h.is).mono fun _ _ ⟨h1, h2, h3, h4⟩ => ⟨h1, ⟨h2, h.bel.trans h3⟩, h4⟩
theorem liveT (x : Int) (h : Tr w0 w t G) : Calls Try.prog 16 #[.pointer (some ⟨t, 0, none⟩), .int .i64 x] w fun e w' => e = .returned (.bool (lv G x)) ∧ w' = w := plive _ t G x w h.is
theorem lenT (h : Tr w0 w t G) : Calls Try.prog 15 #[.pointer (some ⟨t, 0, none⟩)] w fun e w' => e = .returned (.int .i64 G.length) ∧ w' = w := plen _ t G w h.is
theorem parT (x : Int) (h : Tr w0 w t G) : Calls Try.prog 18 #[.pointer (some ⟨t, 0, none⟩), .int .i64 x] w fun e w' => e = .returned (.int .i64 (par G x)) ∧ w' = w := ppar _ t G x w h.is
theorem depT (x : Int) (h : Tr w0 w t G) : Calls Try.prog 20 #[.pointer (some ⟨t, 0, none⟩), .int .i64 x] w fun e w' => e = .returned (.int .i64 (dep G x)) ∧ Tr w0 w' t G ∧ Below w.heap.size w w' :=
  (pdepth _ t G x w h.is).mono fun _ _ ⟨h1, h2⟩ => ⟨h1, h.grow h2, h2⟩
theorem listT {f : Int} {L : List Int} {n : Nat} (h : Tr w0 w t G) (hc : Calls Try.prog n #[.pointer (some ⟨t, 0, none⟩), .int .i64 f] w fun e w' => ∃ v, e = .returned v ∧ w'.ownsRow w.heap.size 3 1 v L.length (L.map iv) ∧ Below w.heap.size w w') :
    Calls Try.prog n #[.pointer (some ⟨t, 0, none⟩), .int .i64 f] w fun e w' => ∃ a cap, e = .returned (.slice a L.length cap) ∧ Ints w' a L ∧ Tr w0 w' t G ∧ Below w.heap.size w w' :=
  hc.mono fun _ _ ⟨v, h1, h2, h3⟩ => by
    obtain ⟨a, cap, rfl, h4⟩ := ints_own h2
    exact ⟨a, cap, h1, h4, h.grow h3, h3⟩
theorem chainT (x : Int) (h : Tr w0 w t G) : Calls Try.prog 23 #[.pointer (some ⟨t, 0, none⟩), .int .i64 x] w fun e w' => ∃ a cap, e = .returned (.slice a (chain G x).length cap) ∧ Ints w' a (chain G x) ∧ Tr w0 w' t G ∧ Below w.heap.size w w' := listT h (pchain _ t G x w h.is)
theorem belT (x : Int) (h : Tr w0 w t G) : Calls Try.prog 25 #[.pointer (some ⟨t, 0, none⟩), .int .i64 x] w fun e w' => ∃ a cap, e = .returned (.slice a (bel G x).length cap) ∧ Ints w' a (bel G x) ∧ Tr w0 w' t G ∧ Below w.heap.size w w' := listT h (pbelow _ t G x w h.is)
theorem kidsT (x : Int) (h : Tr w0 w t G) : Calls Try.prog 27 #[.pointer (some ⟨t, 0, none⟩), .int .i64 x] w fun e w' => ∃ a cap, e = .returned (.slice a (kids G x).length cap) ∧ Ints w' a (kids G x) ∧ Tr w0 w' t G ∧ Below w.heap.size w w' := listT h (pkids _ t G x w h.is)
end

/-! ### the example -/
def g1 : Gr := [(-1, true), (0, true)]
def g2 : Gr := [(-1, true), (0, true), (1, true)]
theorem ex1 : addG newG 0 = g1 := by decide
theorem ex2 : addN newG 0 = 1 := by decide
theorem ex3 : addE newG 0 = 0 := by decide
theorem ex4 : addG g1 1 = g2 := by decide
theorem ex5 : addN g1 1 = 2 := by decide
theorem ex6 : addE g1 1 = 0 := by decide
theorem ex7 : chain g2 2 = [2, 1, 0] := by decide
theorem ex8 : bel g2 1 = [1, 2] := by decide
theorem ex9 : kids g2 0 = [1] := by decide
theorem ex10 : dep g2 2 = 2 := by decide
theorem ex11 : par g2 2 = 1 := by decide
theorem ex12 : lv g2 2 = true := by decide
theorem ex13 : remE g2 1 = 4 := by decide
theorem ex14 : remG g2 1 = g2 := by decide

set_option maxRecDepth 100000 in
set_option maxHeartbeats 2000000 in
theorem works_any (w : World) : Calls Try.prog 8 #[] w fun e w' => e = .returned (.bool true) ∧ Below w.heap.size w w' := by
  go_enter Try.func8, Try.ntmps8
  go_wp2_with fail
  refine (newT (w0 := w) (Below.refl _ _)).mono ?_
  rintro e w1 ⟨t, rfl, h1, -⟩
  go_wp2_with fail
  refine (addT 0 h1).mono ?_
  rintro e w2 ⟨rfl, h2, -⟩
  rw [ex1] at h2
  rw [ex2, ex3]
  clear h1
  go_wp2_with fail
  refine (addT 1 h2).mono ?_
  rintro e w3 ⟨rfl, h3, -⟩
  rw [ex4] at h3
  rw [ex5, ex6]
  clear h2
  go_wp2_with fail
  refine (chainT 2 h3).mono ?_
  rintro e w4 ⟨a4, c4, rfl, i4, h4, -⟩
  rw [ex7] at i4 ⊢
  clear h3
  go_wp2_with fail
  refine (belT 1 h4).mono ?_
  rintro e w5 ⟨a5, c5, rfl, i5, h5, b5⟩
  rw [ex8] at i5 ⊢
  have i4' := i4.later b5
  clear h4 i4
  go_wp2_with fail
  refine (kidsT 0 h5).mono ?_
  rintro e w6 ⟨a6, c6, rfl, i6, h6, b6⟩
  rw [ex9] at i6 ⊢
  have i46 := i4'.later b6
  have i56 := i5.later b6
  clear h5 i4' i5 b5 b6
  obtain ⟨q4, o4, rfl, k4⟩ := i46 0 (by decide)
  obtain ⟨q5, o5, rfl, k5⟩ := i56 1 (by decide)
  have k4' : w6.cell? ⟨q4, o4, none⟩ = some (.int .i64 2) := k4
  have k5' : w6.cell? ⟨q5, o5 + 1, none⟩ = some (.int .i64 2) := k5
  clear k4 k5 i46 i56 i6
  go_wp2_with fail
  refine (depT 2 h6).mono ?_
  rintro e w7 ⟨rfl, h7, -⟩
  rw [ex10]
  clear h6 k4' k5'
  go_wp2_with fail
  refine (parT 2 h7).mono ?_
  rintro e w8 ⟨rfl, rfl⟩
  rw [ex11]
  go_wp2_with fail
  refine (lenT h7).mono ?_
  rintro e w9 ⟨rfl, rfl⟩
  rw [show ((g2.length : Int)) = 3 from rfl]
  go_wp2_with fail
  refine (liveT 2 h7).mono ?_
  rintro e w9 ⟨rfl, rfl⟩
  rw [ex12]
  go_wp2_with fail
  refine (remT 1 h7).mono ?_
  rintro e w10 ⟨rfl, h10, -⟩
  rw [ex13]
  go_wp2_with fail
  go_ret
  exact ⟨rfl, h10.bel⟩
end Go.Proofs.Ytbceadnhfihlfaa
