/-
  Both trees side by side: their blocks' types tell them apart.
-/
import Derived.Test.YtbceadnhfihlfaaOpen
namespace Go.Proofs.Ytbceadnhfihlfaa
open Go.RowKit

/-- The program's tree and the document's, both of the same groups, made since w0. -/
structure Bo (w0 w : World) (t r : Nat) (G : Gr) : Prop where
  p : TreeIs w0.heap.size w t G
  q : RefIs w0.heap.size w r G
  bel : Below w0.heap.size w0 w
section
variable {w0 w w' : World} {t r : Nat} {G : Gr}
theorem Bo.grow (h : Bo w0 w t r G) (hb : Below w.heap.size w w') : Bo w0 w' t r G := ⟨h.p.below hb, h.q.below hb, bel_trans h.bel hb (Nat.le_refl _)⟩
theorem Bo.up (h : Bo w0 w t r G) (q : Up w) : Bo w0 q.p t r G := h.grow q.h
theorem newB (h : Tr w0 w t newG) : Calls Try.prog 10 #[] w fun e w' => ∃ r, e = .returned (.pointer (some ⟨r, 0, none⟩)) ∧ Bo w0 w' t r newG :=
  (rnew w).mono fun _ _ ⟨r, h1, h2, h3⟩ => ⟨r, h1, (h.grow h3).is, h2.lower h.bel.size, (h.grow h3).bel⟩
/-- One call on one side, the other side not yet. -/
structure Mi (w0 w : World) (t r : Nat) (G G' : Gr) : Prop where
  p : TreeIs w0.heap.size w t G'
  q : RefIs w0.heap.size w r G
  bel : Below w0.heap.size w0 w
theorem addP (x : Int) (h : Bo w0 w t r G) : Calls Try.prog 13 #[.pointer (some ⟨t, 0, none⟩), .int .i64 x] w fun e w' => e = .returned (.tuple #[.int .i64 (addN G x), .int .i64 (addE G x)]) ∧ Mi w0 w' t r G (addG G x) :=
  (padd _ t G x w h.p).mono fun _ _ ⟨h1, h2, h3, h4⟩ => ⟨h1, h2, h.q.ty h4 rfl rfl rfl, h.bel.trans h3⟩
theorem addQ (x : Int) (h : Mi w0 w t r G (addG G x)) : Calls Try.prog 14 #[.pointer (some ⟨r, 0, none⟩), .int .i64 x] w fun e w' => e = .returned (.tuple #[.int .i64 (addN G x), .int .i64 (addE G x)]) ∧ Bo w0 w' t r (addG G x) :=
  (radd _ r G x w h.q).mono fun _ _ ⟨h1, h2, h3, h4⟩ => ⟨h1, h.p.ty h4 rfl rfl, h2, h.bel.trans h3⟩
theorem remP (x : Int) (h : Bo w0 w t r G) : Calls Try.prog 11 #[.pointer (some ⟨t, 0, none⟩), .int .i64 x] w fun e w' => e = .returned (.int .i64 (remE G x)) ∧ Mi w0 w' t r G (remG G x) :=
  (prem _ t G x w h.p).mono fun _ _ ⟨h1, h2, h3, h4⟩ => ⟨h1, h2, h.q.ty h4 rfl rfl rfl, h.bel.trans h3⟩
theorem remQ (x : Int) (h : Mi w0 w t r G (remG G x)) : Calls Try.prog 12 #[.pointer (some ⟨r, 0, none⟩), .int .i64 x] w fun e w' => e = .returned (.int .i64 (remE G x)) ∧ Bo w0 w' t r (remG G x) :=
  (rrem _ r G x w h.q).mono fun _ _ ⟨h1, h2, h3, h4⟩ => ⟨h1, h.p.ty h4 rfl rfl, h2, h.bel.trans h3⟩
theorem listB {b : Nat} {f : Int} {L : List Int} {n : Nat} (h : Bo w0 w t r G) (hc : Calls Try.prog n #[.pointer (some ⟨b, 0, none⟩), .int .i64 f] w fun e w' => ∃ v, e = .returned v ∧ w'.ownsRow w.heap.size 3 1 v L.length (L.map iv) ∧ Below w.heap.size w w') :
    Calls Try.prog n #[.pointer (some ⟨b, 0, none⟩), .int .i64 f] w fun e w' => ∃ a cap, e = .returned (.slice a L.length cap) ∧ Ints w' a L ∧ Bo w0 w' t r G ∧ Below w.heap.size w w' :=
  hc.mono fun _ _ ⟨v, h1, h2, h3⟩ => by
    obtain ⟨a, cap, rfl, h4⟩ := ints_own h2
    exact ⟨a, cap, h1, h4, h.grow h3, h3⟩
theorem chainB (x : Int) (h : Bo w0 w t r G) : Calls Try.prog 23 #[.pointer (some ⟨t, 0, none⟩), .int .i64 x] w fun e w' => ∃ a cap, e = .returned (.slice a (chain G x).length cap) ∧ Ints w' a (chain G x) ∧ Bo w0 w' t r G ∧ Below w.heap.size w w' := listB h (pchain _ t G x w h.p)
theorem belB (x : Int) (h : Bo w0 w t r G) : Calls Try.prog 25 #[.pointer (some ⟨t, 0, none⟩), .int .i64 x] w fun e w' => ∃ a cap, e = .returned (.slice a (bel G x).length cap) ∧ Ints w' a (bel G x) ∧ Bo w0 w' t r G ∧ Below w.heap.size w w' := listB h (pbelow _ t G x w h.p)
theorem kidsB (x : Int) (h : Bo w0 w t r G) : Calls Try.prog 27 #[.pointer (some ⟨t, 0, none⟩), .int .i64 x] w fun e w' => ∃ a cap, e = .returned (.slice a (kids G x).length cap) ∧ Ints w' a (kids G x) ∧ Bo w0 w' t r G ∧ Below w.heap.size w w' := listB h (pkids _ t G x w h.p)
theorem chainR (x : Int) (h : Bo w0 w t r G) : Calls Try.prog 24 #[.pointer (some ⟨r, 0, none⟩), .int .i64 x] w fun e w' => ∃ a cap, e = .returned (.slice a (chain G x).length cap) ∧ Ints w' a (chain G x) ∧ Bo w0 w' t r G ∧ Below w.heap.size w w' := listB h (rchain _ r G x w h.q)
theorem belR (x : Int) (h : Bo w0 w t r G) : Calls Try.prog 26 #[.pointer (some ⟨r, 0, none⟩), .int .i64 x] w fun e w' => ∃ a cap, e = .returned (.slice a (bel G x).length cap) ∧ Ints w' a (bel G x) ∧ Bo w0 w' t r G ∧ Below w.heap.size w w' := listB h (rbelow _ r G x w h.q)
theorem kidsR (x : Int) (h : Bo w0 w t r G) : Calls Try.prog 28 #[.pointer (some ⟨r, 0, none⟩), .int .i64 x] w fun e w' => ∃ a cap, e = .returned (.slice a (kids G x).length cap) ∧ Ints w' a (kids G x) ∧ Bo w0 w' t r G ∧ Below w.heap.size w w' := listB h (rkids _ r G x w h.q)
theorem sameB {a a' : Option Addr} {cap cap' : Nat} {L : List Int} (h : Bo w0 w t r G) (hl : L.length ≤ 1000000) (h1 : Ints w a L) (h2 : Ints w a' L) :
    Calls Try.prog 22 #[.slice a L.length cap, .slice a' L.length cap'] w fun e w' => e = .returned (.bool true) ∧ Bo w0 w' t r G :=
  (rrow a a' cap cap' L L w h1 h2 hl).mono fun _ _ ⟨e1, e2⟩ => ⟨by rw [e1]; simp, h.grow e2⟩
end
end Go.Proofs.Ytbceadnhfihlfaa
