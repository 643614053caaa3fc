/-
  A region that draws its order, whose operations read, and whose callees read and make memory of their own: walked once. No program is named here.
-/
import Derived.Test.YtponlldgnlckfaaMem
import Derived.Deep.QuietTactic
namespace Go.Proofs.Ytponlldgnlckfaa
open Go.RowKit

/-- A world that has all that w had, as it was. -/
structure Up (w : World) where
  p : World
  h : Below w.heap.size w p
theorem wp_region_up {P : Program} {id : Nat} {Q : Exit → Act → World → Prop} {a : Act} {w : World} {l : List Oper} (hm : P.follows .mixedOrders = true) (hB : Region.lexB .any l.toArray = true)
    (h : wpQuiet P l.toArray (fun w' => ∃ q : Up w, w' = q.p) (fun a' => ∀ w', (∃ q : Up w, w' = q.p) → Q .normal a' w') l a) : (Code.region id l.toArray true).wp P Q a w :=
  wp_region_quiet (C := fun w' => ∃ q : Up w, w' = q.p) hm hB ⟨⟨w.drew, ⟨rfl, rfl, rfl, Nat.le_refl _, fun _ _ => rfl⟩⟩, rfl⟩ (by simpa using h)
theorem Up.any (w : World) : Nonempty (Up w) := ⟨⟨w, Below.refl _ _⟩⟩
/-- A callee's contract, met in such a world. -/
theorem Up.call {P : Program} {f : FuncId} {args : Array Value} {w : World} {q : Up w} {v : Value}
    (h : Calls P f args q.p fun e w' => e = .returned v ∧ Below q.p.heap.size q.p w') : Calls P f args q.p fun e w'' => e = .returned v ∧ ∃ q' : Up w, w'' = q'.p :=
  h.mono fun _ w' ⟨he, hb⟩ => ⟨he, ⟨w', q.h.trans (hb.mono q.h.size)⟩, rfl⟩
theorem Up.cell {w : World} {p : Addr} {v : Value} (h : w.cell? p = some v) (q : Up w) : q.p.cell? p = some v := by
  rw [q.h.cell (p := p) (block_lt_of_cell (a := p) h)]; exact h
end Go.Proofs.Ytponlldgnlckfaa
