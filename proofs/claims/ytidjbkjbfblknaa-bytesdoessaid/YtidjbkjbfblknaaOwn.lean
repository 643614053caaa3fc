/-
  A store that a law made, told with what lies below it; the acts that came in.
-/
import Derived.Test.YtidjbkjbfblknaaDo
namespace Go.Proofs.Ytidjbkjbfblknaa
open Go.RowKit

theorem below_drawn {B : Nat} {w w' : World} (h : Below B w w') (n : Nat) : Below B w (w'.drewN n) := ⟨h.os, h.tape, h.output, h.size, h.block⟩
/-- A store made since w0; what lay there ahead is as it was. -/
structure Own (w0 w : World) (s p n : Nat) (L : List UInt8) : Prop where
  st : StoreIs w s p n L
  bel : Below w0.heap.size w0 w
  lo : w0.heap.size ≤ p
theorem Own.turn {w0 w w' : World} {s p n : Nat} {L L' : List UInt8} (h : Own w0 w s p n L) (hs : StoreIs w' s p n L') (ha : Apart p w w') : Own w0 w' s p n L' :=
  ⟨hs, h.bel.trans (ha.below h.lo h.bel.size), h.lo⟩
theorem Own.drewN {w0 w : World} {s p n : Nat} {L : List UInt8} (h : Own w0 w s p n L) (m : Nat) : Own w0 (w.drewN m) s p n L := ⟨h.st.drewN m, below_drawn h.bel m, h.lo⟩
theorem newO (x : Int) (k : Nat) (w0 w : World) (hb : Below w0.heap.size w0 w) (hk : x < 0 ∧ k = 0 ∨ x = k ∧ k ≤ 1024 ∨ 1024 < x ∧ k = 1024) :
    Calls Try.prog 8 #[.int .i64 x] w fun e w' => ∃ s p, e = .returned (.pointer (some ⟨s, 0, none⟩)) ∧ Own w0 w' s p k (List.replicate (k * 16) 0) :=
  (snew x k w hk).mono fun _ _ ⟨s, p, h1, h2, h3, _, h5⟩ => ⟨s, p, h1, h2, hb.trans (h5.mono hb.size), Nat.le_trans hb.size h3⟩

section
variable {w0 w : World} {s p n : Nat} {L : List UInt8}
theorem doO (r : Rec) (h : Own w0 w s p n L) :
    Calls Try.prog 14 #[.pointer (some ⟨s, 0, none⟩), .agg (recCells r).toArray] w fun e w' => e = .returned (.int .i64 (doE n r)) ∧ Own w0 w' s p n (doL n L r) :=
  (sdo s p n L r w h.st).mono fun _ _ ⟨a, b, c⟩ => ⟨a, h.turn b c⟩
theorem readO (i : Int) (h : Own w0 w s p n L) :
    Calls Try.prog 15 #[.pointer (some ⟨s, 0, none⟩), .int .i64 i] w fun e w' => e = .returned (.tuple #[.string (readT n L i), .int .i64 (readE n i)]) ∧ w' = w := sread s p n L i w h.st
theorem getO (i at_ : Int) (h : Own w0 w s p n L) :
    Calls Try.prog 17 #[.pointer (some ⟨s, 0, none⟩), .int .i64 i, .int .i64 at_] w fun e w' => e = .returned (.tuple #[.int .u8 (getB n L i at_), .int .i64 (getE n i at_)]) ∧ w' = w := sget s p n L i at_ w h.st
theorem writeO (i : Int) (T : List UInt8) (h : Own w0 w s p n L) :
    Calls Try.prog 20 #[.pointer (some ⟨s, 0, none⟩), .int .i64 i, .string ⟨T.toArray⟩] w fun e w' => e = .returned (.int .i64 (writeE n i T)) ∧ Own w0 w' s p n (writeL n L i T) :=
  (swrite s p n L i T w h.st).mono fun _ _ ⟨a, b, c⟩ => ⟨a, h.turn b c⟩
theorem putO (i at_ : Int) (b : UInt8) (h : Own w0 w s p n L) :
    Calls Try.prog 21 #[.pointer (some ⟨s, 0, none⟩), .int .i64 i, .int .i64 at_, bv b] w fun e w' => e = .returned (.int .i64 (getE n i at_)) ∧ Own w0 w' s p n (putL n L i at_ b) :=
  (sput s p n L i at_ b w h.st).mono fun _ _ ⟨a, b, c⟩ => ⟨a, h.turn b c⟩
theorem moveO (i j : Int) (h : Own w0 w s p n L) :
    Calls Try.prog 22 #[.pointer (some ⟨s, 0, none⟩), .int .i64 i, .int .i64 j] w fun e w' => e = .returned (.int .i64 (moveE n i j)) ∧ Own w0 w' s p n (moveL n L i j) :=
  (smove s p n L i j w h.st).mono fun _ _ ⟨a, b, c⟩ => ⟨a, h.turn b c⟩
end

/-- The acts that came in. -/
def ActsAt (w : World) (a : Option Addr) (l : List Rec) : Prop :=
  ∀ i (h : i < l.length), ∃ b off, a = some ⟨b, off, none⟩ ∧ w.rangeAt b (off + i * 5) (recCells l[i])
theorem ActsAt.below {w w' : World} {a : Option Addr} {l : List Rec} (h : ActsAt w a l) (hb : Below w.heap.size w w') : ActsAt w' a l := by
  intro i hi
  obtain ⟨b, off, rfl, h1⟩ := h i hi
  exact ⟨b, off, rfl, fun j v hv => cell_later hb (h1 j v hv)⟩
theorem size29 : (Try.prog.info? 29).map (·.size) = some 5 := by kernel_rfl
theorem size29_of (r : Rec) : (Try.prog.info? 29).map (·.size) = some (recCells r).length := size29
end Go.Proofs.Ytidjbkjbfblknaa
