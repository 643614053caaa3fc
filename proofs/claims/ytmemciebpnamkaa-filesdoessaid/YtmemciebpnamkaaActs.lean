/-
  The acts that came in, told.
-/
import Derived.Test.YtmemciebpnamkaaOwn
namespace Go.Proofs.Ytmemciebpnamkaa
open Go.RowKit

def entCells (e : Ent) : List Value := [.int .i64 e.f, .int .i64 e.i, .string ⟨e.t.toArray⟩]
/-- The acts that came in. -/
def ActsAt (w : World) (a : Option Addr) (l : List Ent) : Prop :=
  ∀ i (h : i < l.length), ∃ b off, a = some ⟨b, off, none⟩ ∧ w.rangeAt b (off + i * 3) (entCells l[i])
theorem ActsAt.below {w w' : World} {a : Option Addr} {l : List Ent} (h : ActsAt w a l) (hb : Below w.heap.size w w') : ActsAt w' a l := by
  intro i hi
  obtain ⟨b, off, rfl, h1⟩ := h i hi
  exact ⟨b, off, rfl, fun j v hv => cell_later hb (h1 j v hv)⟩
theorem ActsAt.at {w : World} {a : Option Addr} {l : List Ent} (h : ActsAt w a l) {j : Nat} (hj : j < l.length) :
    ∃ (b off : Nat) (e : Ent), a = some ⟨b, off, none⟩ ∧ w.cell? ⟨b, off + j * 3, none⟩ = some (.int .i64 e.f) ∧ w.cell? ⟨b, off + j * 3 + 1, none⟩ = some (.int .i64 e.i) ∧ w.cell? ⟨b, off + j * 3 + 2, none⟩ = some (.string ⟨e.t.toArray⟩) := by
  obtain ⟨b, off, rfl, h1⟩ := h j hj
  exact ⟨b, off, l[j], rfl, h1 0 _ rfl, h1 1 _ rfl, h1 2 _ rfl⟩
end Go.Proofs.Ytmemciebpnamkaa
