/-
  Both counters side by side: their blocks' types tell them apart.
-/
import Derived.Test.YtpageadhmgoddaaR3
import Derived.Test.YtpageadhmgoddaaR4
import Derived.Test.YtpageadhmgoddaaR5
namespace Go.Proofs.Ytpageadhmgoddaa
open Go.RowKit

theorem RefIs.lower {B B' : Nat} {w : World} {r : Nat} {S : Cs} (h : RefIs B w r S) (hb : B' ≤ B) : RefIs B' w r S := by
  obtain ⟨g1, c1, g2, c2, g3, c3, g4, c4, h⟩ := h
  exact ⟨g1, c1, g2, c2, g3, c3, g4, c4, h.row, own_mono h.r1 hb, own_mono h.r2 hb, own_mono h.r3 hb, own_mono h.r4 hb, h.n12, h.n13, h.n14, h.n23, h.n24, h.n34, Nat.le_trans hb h.lo⟩
/-- The program's counter and the document's, both of the same, made since w0. -/
structure Bo (w0 : World) (N : Nat) (w : World) (c r : Nat) (S : Cs) : Prop where
  p : CtIs w0.heap.size N w c S
  q : RefIs w0.heap.size w r S
  bel : Below w0.heap.size w0 w
/-- One call on the program's side, the document's not yet. -/
structure Mi (w0 : World) (N : Nat) (w : World) (c r : Nat) (S S' : Cs) : Prop where
  p : CtIs w0.heap.size (N + 1) w c S'
  q : RefIs w0.heap.size w r S
  ok : OkC N S
  bel : Below w0.heap.size w0 w
section
variable {w0 w w' : World} {N c r : Nat} {S S' : Cs}
theorem Bo.grow (h : Bo w0 N w c r S) (hb : Below w.heap.size w w') : Bo w0 N w' c r S := ⟨h.p.below hb, h.q.below hb, bel_trans h.bel hb (Nat.le_refl _)⟩
theorem Bo.up (h : Bo w0 N w c r S) (q : Up w) : Bo w0 N q.p c r S := h.grow q.h
theorem Bo.more {M : Nat} (h : Bo w0 N w c r S) (hm : N ≤ M) : Bo w0 M w c r S := ⟨⟨h.p.row, h.p.lo, h.p.ok.mono hm⟩, h.q, h.bel⟩
theorem RefIs.drewN {B : Nat} (h : RefIs B w r S) (n : Nat) : RefIs B (w.drewN n) r S := by
  obtain ⟨g1, c1, g2, c2, g3, c3, g4, c4, h⟩ := h
  exact ⟨g1, c1, g2, c2, g3, c3, g4, c4, h.drewN n⟩
theorem Bo.drewN (h : Bo w0 N w c r S) (n : Nat) : Bo w0 N (w.drewN n) c r S := ⟨⟨h.p.row.drewN n, h.p.lo, h.p.ok⟩, h.q.drewN n, below_drawn h.bel n⟩
theorem Mi.drewN (h : Mi w0 N w c r S S') (n : Nat) : Mi w0 N (w.drewN n) c r S S' := ⟨⟨h.p.row.drewN n, h.p.lo, h.p.ok⟩, h.q.drewN n, h.ok, below_drawn h.bel n⟩
theorem newB (h : Ct w0 N w c newC) : Calls Try.prog 12 #[] w fun e w' => ∃ r, e = .returned (.pointer (some ⟨r, 0, none⟩)) ∧ Bo w0 N w' c r newC :=
  (rnew w).mono fun _ _ ⟨r, h1, h2, h3⟩ => ⟨r, h1, h.is.below h3, h2.lower h.bel.size, bel_trans h.bel h3 (Nat.le_refl _)⟩
theorem Bo.setP (g n : Int) (h : Bo w0 N w c r S) : Calls Try.prog 17 #[.pointer (some ⟨c, 0, none⟩), .int .i64 g, .int .i64 n] w fun e w' => e = .returned (.int .i64 (setE g n)) ∧ Mi w0 N w' c r S (setC S g n) :=
  (pset _ N c S g n w h.p).mono fun _ _ ⟨h1, h2, h3, h4, _⟩ => ⟨h1, ⟨h2.row, h2.lo, h2.ok.mono (by omega)⟩, h.q.ty h4 rfl rfl, h.p.ok, h.bel.trans h3⟩
theorem Mi.setQ (g n : Int) (h : Mi w0 N w c r S (setC S g n)) : Calls Try.prog 18 #[.pointer (some ⟨r, 0, none⟩), .int .i64 g, .int .i64 n] w fun e w' => e = .returned (.int .i64 (setE g n)) ∧ Bo w0 (N + 1) w' c r (setC S g n) :=
  (rset _ r S g n w h.q).mono fun _ _ ⟨h1, h2, h3, h4⟩ => ⟨h1, h.p.ty h4 rfl, h2, h.bel.trans h3⟩
theorem Bo.tryP {a : Option Addr} {cap : Nat} {L : List Int} (n : Int) (h : Bo w0 N w c r S) (hI : Ints w0 a L) (hl : L.length ≤ 1000000) (hN : N ≤ 1000000) :
    Calls Try.prog 13 #[.pointer (some ⟨c, 0, none⟩), .slice a L.length cap, .int .i64 n] w fun e w' => e = .returned (.tuple #[.int .i64 (tryN S L n), .int .i64 (tryE S L n)]) ∧ Mi w0 N w' c r S (tryC S L n) :=
  (ptry _ N c S a cap L n w h.p (Stay.came hI h.bel) hl hN).mono fun _ _ ⟨h1, h2, h3, h4, _⟩ => ⟨h1, h2, h.q.ty h4 rfl rfl, h.p.ok, h.bel.trans h3⟩
theorem Mi.tryQ {a : Option Addr} {cap : Nat} {L : List Int} (n : Int) (h : Mi w0 N w c r S (tryC S L n)) (hI : Ints w0 a L) (hl : L.length ≤ 1000000) (hN : N ≤ 1000000) :
    Calls Try.prog 14 #[.pointer (some ⟨r, 0, none⟩), .slice a L.length cap, .int .i64 n] w fun e w' => e = .returned (.tuple #[.int .i64 (tryN S L n), .int .i64 (tryE S L n)]) ∧ Bo w0 (N + 1) w' c r (tryC S L n) :=
  (rtry _ N r S a cap L n w h.q h.ok (fun _ hb => hI.later (h.bel.trans hb)) hl hN).mono fun _ _ ⟨h1, h2, h3, h4⟩ => ⟨h1, h.p.ty h4 rfl, h2, h.bel.trans h3⟩
theorem Bo.giveP {a : Option Addr} {cap : Nat} {L : List Int} (n : Int) (h : Bo w0 N w c r S) (hI : Ints w0 a L) (hl : L.length ≤ 1000000) :
    Calls Try.prog 15 #[.pointer (some ⟨c, 0, none⟩), .slice a L.length cap, .int .i64 n] w fun e w' => e = .returned (.int .i64 (giveE S L n)) ∧ Mi w0 N w' c r S (giveC S L n) :=
  (pgive _ N c S a cap L n w h.p (Stay.came hI h.bel) hl).mono fun _ _ ⟨h1, h2, h3, h4, _⟩ => ⟨h1, ⟨h2.row, h2.lo, h2.ok.mono (by omega)⟩, h.q.ty h4 rfl rfl, h.p.ok, h.bel.trans h3⟩
theorem Mi.giveQ {a : Option Addr} {cap : Nat} {L : List Int} (n : Int) (h : Mi w0 N w c r S (giveC S L n)) (hI : Ints w0 a L) (hl : L.length ≤ 1000000) :
    Calls Try.prog 16 #[.pointer (some ⟨r, 0, none⟩), .slice a L.length cap, .int .i64 n] w fun e w' => e = .returned (.int .i64 (giveE S L n)) ∧ Bo w0 (N + 1) w' c r (giveC S L n) :=
  (rgive _ N r S a cap L n w h.q h.ok (fun _ hb => hI.later (h.bel.trans hb)) hl).mono fun _ _ ⟨h1, h2, h3, h4⟩ => ⟨h1, h.p.ty h4 rfl, h2, h.bel.trans h3⟩
end
end Go.Proofs.Ytpageadhmgoddaa
