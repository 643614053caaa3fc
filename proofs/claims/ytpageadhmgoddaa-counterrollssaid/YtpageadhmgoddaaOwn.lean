/-
  A counter that a law made, told with what lies below it; the document's example.
-/
import Derived.Test.YtpageadhmgoddaaP7
namespace Go.Proofs.Ytpageadhmgoddaa
open Go.RowKit

theorem CtIs.lower {B B' N : Nat} {w : World} {c : Nat} {S : Cs} (h : CtIs B N w c S) (hb : B' ≤ B) : CtIs B' N w c S := ⟨h.row, Nat.le_trans hb h.lo, h.ok⟩
/-- A counter made since w0; what lay there ahead is as it was. -/
structure Ct (w0 : World) (N : Nat) (w : World) (c : Nat) (S : Cs) : Prop where
  is : CtIs w0.heap.size N w c S
  bel : Below w0.heap.size w0 w
/-- A chain that came in. -/
theorem Stay.came {w0 w : World} {a : Option Addr} {L : List Int} (h : Ints w0 a L) (hb : Below w0.heap.size w0 w) : Stay w0.heap.size w a L := fun _ h1 _ => h.later (hb.trans h1)
/-- A chain in a row of ints. -/
theorem Stay.row {B : Nat} {w : World} {b : Nat} {L : List Int} (h : RowAt w b 3 (L.map iv)) : Stay B w (some ⟨b, 0, none⟩) L := fun W _ ht i hi => by
  refine ⟨b, 0, rfl, ?_⟩
  rw [(h.ty ht rfl).cell, Nat.zero_add]
  simp [iv, hi]
theorem Stay.own {B B' : Nat} {w : World} {v : Value} {L : List Int} (h : w.ownsRow B' 3 1 v L.length (L.map iv)) : ∃ a cap, v = .slice a L.length cap ∧ Stay B w a L := by
  obtain ⟨a, cap, rfl, -⟩ := own_form h
  refine ⟨a, cap, rfl, fun W _ ht => ?_⟩
  obtain ⟨a', cap', e, hI⟩ := ints_own (own_ty h ht rfl)
  injection e with e1
  rw [e1]; exact hI
section
variable {w0 w w' : World} {N c : Nat} {S : Cs}
theorem Ct.grow (h : Ct w0 N w c S) (hb : Below w.heap.size w w') : Ct w0 N w' c S := ⟨h.is.below hb, bel_trans h.bel hb (Nat.le_refl _)⟩
theorem Ct.up (h : Ct w0 N w c S) (q : Up w) : Ct w0 N q.p c S := h.grow q.h
theorem Ct.more {M : Nat} (h : Ct w0 N w c S) (hm : N ≤ M) : Ct w0 M w c S := ⟨⟨h.is.row, h.is.lo, h.is.ok.mono hm⟩, h.bel⟩
theorem newT (hb : Below w0.heap.size w0 w) : Calls Try.prog 11 #[] w fun e w' => ∃ c, e = .returned (.pointer (some ⟨c, 0, none⟩)) ∧ Ct w0 0 w' c newC ∧ Below w.heap.size w w' :=
  (pnew w).mono fun _ _ ⟨c, h1, h2, h3⟩ => ⟨c, h1, ⟨h2.lower hb.size, bel_trans hb h3 (Nat.le_refl _)⟩, h3⟩
theorem setT (g n : Int) (h : Ct w0 N w c S) : Calls Try.prog 17 #[.pointer (some ⟨c, 0, none⟩), .int .i64 g, .int .i64 n] w fun e w' => e = .returned (.int .i64 (setE g n)) ∧ Ct w0 N w' c (setC S g n) ∧ Ty pt w w' ∧ Apart c w w' :=
  (pset _ N c S g n w h.is).mono fun _ _ ⟨h1, h2, h3, h4⟩ => ⟨h1, ⟨h2, h.bel.trans h3⟩, h4⟩
theorem tryT {a : Option Addr} {cap : Nat} {L : List Int} (n : Int) (h : Ct w0 N w c S) (hI : Stay w0.heap.size w a L) (hl : L.length ≤ 1000000) (hN : N ≤ 1000000) :
    Calls Try.prog 13 #[.pointer (some ⟨c, 0, none⟩), .slice a L.length cap, .int .i64 n] w fun e w' => e = .returned (.tuple #[.int .i64 (tryN S L n), .int .i64 (tryE S L n)]) ∧ Ct w0 (N + 1) w' c (tryC S L n) ∧ Ty pt w w' ∧ Apart c w w' :=
  (ptry _ N c S a cap L n w h.is hI hl hN).mono fun _ _ ⟨h1, h2, h3, h4⟩ => ⟨h1, ⟨h2, h.bel.trans h3⟩, h4⟩
theorem giveT {a : Option Addr} {cap : Nat} {L : List Int} (n : Int) (h : Ct w0 N w c S) (hI : Stay w0.heap.size w a L) (hl : L.length ≤ 1000000) :
    Calls Try.prog 15 #[.pointer (some ⟨c, 0, none⟩), .slice a L.length cap, .int .i64 n] w fun e w' => e = .returned (.int .i64 (giveE S L n)) ∧ Ct w0 N w' c (giveC S L n) ∧ Ty pt w w' ∧ Apart c w w' :=
  (pgive _ N c S a cap L n w h.is hI hl).mono fun _ _ ⟨h1, h2, h3, h4⟩ => ⟨h1, ⟨h2, h.bel.trans h3⟩, h4⟩
theorem useT (x : Int) (h : Ct w0 N w c S) : Calls Try.prog 19 #[.pointer (some ⟨c, 0, none⟩), .int .i64 x] w fun e w' => e = .returned (.int .i64 (S.u x)) ∧ Ct w0 N w' c S ∧ Below w.heap.size w w' :=
  (puse _ N c S x w h.is).mono fun _ _ ⟨h1, h2⟩ => ⟨h1, h.grow h2, h2⟩
theorem limT (x : Int) (h : Ct w0 N w c S) : Calls Try.prog 20 #[.pointer (some ⟨c, 0, none⟩), .int .i64 x] w fun e w' => e = .returned (.int .i64 (S.l x)) ∧ Ct w0 N w' c S ∧ Below w.heap.size w w' :=
  (plim _ N c S x w h.is).mono fun _ _ ⟨h1, h2⟩ => ⟨h1, h.grow h2, h2⟩
theorem failT (x : Int) (h : Ct w0 N w c S) : Calls Try.prog 21 #[.pointer (some ⟨c, 0, none⟩), .int .i64 x] w fun e w' => e = .returned (.int .i64 (S.f x)) ∧ Ct w0 N w' c S ∧ Below w.heap.size w w' :=
  (pfail _ N c S x w h.is).mono fun _ _ ⟨h1, h2⟩ => ⟨h1, h.grow h2, h2⟩
theorem peakT (x : Int) (h : Ct w0 N w c S) : Calls Try.prog 22 #[.pointer (some ⟨c, 0, none⟩), .int .i64 x] w fun e w' => e = .returned (.int .i64 (S.p x)) ∧ Ct w0 N w' c S ∧ Below w.heap.size w w' :=
  (ppeak _ N c S x w h.is).mono fun _ _ ⟨h1, h2⟩ => ⟨h1, h.grow h2, h2⟩
end

def x1 : Cs := setC newC 1 3
def x2 : Cs := tryC x1 [2, 1, 0] 2
def x3 : Cs := tryC x2 [2, 1, 0] 2
def x4 : Cs := giveC x3 [0] 1
theorem ex1 : setE 1 3 = 0 := by decide
theorem ex2 : tryN x1 [2, 1, 0] 2 = -1 := by decide
theorem ex3 : tryE x1 [2, 1, 0] 2 = 0 := by decide
theorem ex4 : tryN x2 [2, 1, 0] 2 = 1 := by decide
theorem ex5 : tryE x2 [2, 1, 0] 2 = 22 := by decide
theorem ex6 : x3.u 2 = 2 := by decide
theorem ex7 : x3.l 1 = 3 := by decide
theorem ex8 : x3.f 1 = 1 := by decide
theorem ex9 : x3.p 0 = 2 := by decide
theorem ex10 : giveE x3 [0] 1 = 0 := by decide
theorem ex11 : x4.u 0 = 1 := by decide

theorem lit3 (w : World) : RowAt (w.alloc (.cells #[.int .i64 2, .int .i64 1, .int .i64 0] 3)) w.heap.size 3 (([2, 1, 0] : List Int).map iv) := RowAt.new w #[.int .i64 2, .int .i64 1, .int .i64 0] 3
theorem lit1 (w : World) : RowAt (w.alloc (.cells #[.int .i64 0] 3)) w.heap.size 3 (([0] : List Int).map iv) := RowAt.new w #[.int .i64 0] 3

set_option maxRecDepth 100000 in
set_option maxHeartbeats 4000000 in
theorem works_any (w : World) : Calls Try.prog 9 #[] w fun e w' => e = .returned (.bool true) ∧ Below w.heap.size w w' := by
  go_enter Try.func9, Try.ntmps9
  go_wp2_with fail
  refine (newT (w0 := w) (Below.refl _ _)).mono ?_
  rintro e w1 ⟨c, rfl, h1, -⟩
  go_wp2_with fail
  refine (setT 1 3 h1).mono ?_
  rintro e w2 ⟨rfl, h2, -⟩
  rw [ex1]
  have h2 : Ct w 0 w2 c x1 := h2
  clear h1
  have i2 := Stay.row (B := w.heap.size) (lit3 w2)
  have h3 := h2.grow (below_alloc w2 (.cells #[.int .i64 2, .int .i64 1, .int .i64 0] 3))
  clear h2
  go_wp2_with fail
  refine (tryT (L := [2, 1, 0]) (cap := 3) 2 h3 i2 (by decide) (by decide)).mono ?_
  rintro e w4 ⟨rfl, h4, -⟩
  rw [ex2, ex3]
  have h4 : Ct w 1 w4 c x2 := h4
  clear h3 i2
  have i4 := Stay.row (B := w.heap.size) (lit3 w4)
  have h5 := h4.grow (below_alloc w4 (.cells #[.int .i64 2, .int .i64 1, .int .i64 0] 3))
  clear h4
  go_wp2_with fail
  refine (tryT (L := [2, 1, 0]) (cap := 3) 2 h5 i4 (by decide) (by decide)).mono ?_
  rintro e w6 ⟨rfl, h6, -⟩
  rw [ex4, ex5]
  have h6 : Ct w 2 w6 c x3 := h6
  clear h5 i4
  go_wp2_with fail
  refine (useT 2 h6).mono ?_
  rintro e w7 ⟨rfl, h7, -⟩
  rw [ex6]
  clear h6
  go_wp2_with fail
  refine (limT 1 h7).mono ?_
  rintro e w8 ⟨rfl, h8, -⟩
  rw [ex7]
  clear h7
  go_wp2_with fail
  refine (failT 1 h8).mono ?_
  rintro e w9 ⟨rfl, h9, -⟩
  rw [ex8]
  clear h8
  go_wp2_with fail
  refine (peakT 0 h9).mono ?_
  rintro e w10 ⟨rfl, h10, -⟩
  rw [ex9]
  clear h9
  have i10 := Stay.row (B := w.heap.size) (lit1 w10)
  have h11 := h10.grow (below_alloc w10 (.cells #[.int .i64 0] 3))
  clear h10
  go_wp2_with fail
  refine (giveT (L := [0]) (cap := 1) 1 h11 i10 (by decide)).mono ?_
  rintro e w12 ⟨rfl, h12, -⟩
  rw [ex10]
  have h12 : Ct w 2 w12 c x4 := h12
  clear h11 i10
  go_wp2_with fail
  refine (useT 0 h12).mono ?_
  rintro e w13 ⟨rfl, h13, -⟩
  rw [ex11]
  go_wp2_with fail
  go_ret
  exact ⟨rfl, h13.bel⟩
end Go.Proofs.Ytpageadhmgoddaa
