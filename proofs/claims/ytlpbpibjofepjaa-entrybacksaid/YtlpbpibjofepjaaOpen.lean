/-
  What the rows hand a walk: an entry that came in by value.
-/
import Derived.Test.YtlpbpibjofepjaaP1
import Derived.Lib.SmallJoins
import Derived.ProofKit
import Derived.OpenShut
import Derived.ChangeOld
import Derived.Deep.DeepHandedRow
import Derived.SizedLaws
import Derived.ChangeMaps5
namespace Go.Proofs.Ytlpbpibjofepjaa
open Go.ChangeShapes Go.WideShapes Go.ChangeAt Go.RowKit

theorem own : ownKnob Try.prog.godebug = none := by kernel_rfl
theorem laidOut : laidOutB Try.prog = true := by kernel_rfl
theorem cells24 : Try.prog.cellsOf 24 = 4 := by kernel_rfl

/-- An entry that came in. -/
theorem entry_in {H : Type} {enc : TypeId × Value → H} {W : World} {r : Reach} {b0 : Nat} {v : Value} {d : DataW H} {p : List MemPlace} (hv : Value.okWide Try.prog W r b0 24 v)
    (h : DataW.Trod enc Try.prog W 0 (fun _ => true) true 24 v d p) : ∃ (k q : Int) (a b : Bool), v = .agg #[.int .i64 k, .int .i64 q, .bool a, .bool b] ∧ (-9223372036854775808 ≤ q ∧ q ≤ 9223372036854775807) := by
  obtain ⟨v0, v1, v2, v3, y0, y1, y2, y3, n, rfl, -, -, g0, g1, g2, g3⟩ := Joins.open_agg4 Try.underlying24 (by kernel_rfl) cells24 hv h
  obtain ⟨K, e0, -, -⟩ := DataW.trod_int Try.underlying22 g0
  obtain ⟨Q, e1, -, w1⟩ := DataW.trod_int Try.underlying3 g1
  obtain ⟨A, e2, -⟩ := DataW.trod_bool Try.underlying4 g2
  obtain ⟨B, e3, -⟩ := DataW.trod_bool Try.underlying4 g3
  simp at e0 e1 e2 e3
  exact ⟨K, Q, A, B, by rw [e0, e1, e2, e3], bounds_i64 w1⟩
end Go.Proofs.Ytlpbpibjofepjaa
