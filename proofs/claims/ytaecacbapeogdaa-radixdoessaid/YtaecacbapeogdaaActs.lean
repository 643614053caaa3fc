/-
  Acts that came in.
-/
import Derived.Test.YtaecacbapeogdaaOwn
namespace Go.Proofs.Ytaecacbapeogdaa
open Go.RowKit

/-- Get, with the world it leaves untold. -/
theorem getO {w0 w : World} {t : Nat} {W : Tab} {n m : Nat} (x : Int) (h : Tb w0 w t W n m) :
    Calls Try.prog 16 #[.pointer (some ⟨t, 0, none⟩), .int .i64 x] w fun e w' => e = .returned (.tuple #[.int .u64 (getX W x), .bool (getB W x)]) ∧ Tb w0 w' t W n m ∧ Below w.heap.size w w' :=
  (getT x h).mono fun e w' ⟨h1, d, h2⟩ => ⟨h1, by rw [h2]; exact h.drewN d, by rw [h2]; exact below_drawn (Below.refl _ _) d⟩
structure Ac where
  p : Int
  x : Int
  off : Bool
def acCells (r : Ac) : List Value := [.int .i64 r.p, .int .u64 r.x, .bool r.off]
def ActsAt (w : World) (a : Option Addr) (l : List Ac) : Prop :=
  ∀ i (h : i < l.length), ∃ b off, a = some ⟨b, off, none⟩ ∧ w.rangeAt b (off + i * 3) (acCells l[i])
theorem ActsAt.below {w w' : World} {a : Option Addr} {l : List Ac} (h : ActsAt w a l) (hb : Below w.heap.size w w') : ActsAt w' a l := by
  intro i hi
  obtain ⟨b, off, rfl, h1⟩ := h i hi
  exact ⟨b, off, rfl, fun j v hv => cell_later hb (h1 j v hv)⟩
theorem ActsAt.at {w : World} {a : Option Addr} {l : List Ac} (h : ActsAt w a l) {i : Nat} (hi : i < l.length) : ∃ b off, a = some ⟨b, off, none⟩ ∧ w.cell? ⟨b, off + i * 3, none⟩ = some (.int .i64 l[i].p) ∧ w.cell? ⟨b, off + i * 3 + 1, none⟩ = some (.int .u64 l[i].x) ∧ w.cell? ⟨b, off + i * 3 + 2, none⟩ = some (.bool l[i].off) := by
  obtain ⟨b, off, rfl, h1⟩ := h i hi
  exact ⟨b, off, rfl, h1 0 _ rfl, h1 1 _ rfl, h1 2 _ rfl⟩
end Go.Proofs.Ytaecacbapeogdaa
