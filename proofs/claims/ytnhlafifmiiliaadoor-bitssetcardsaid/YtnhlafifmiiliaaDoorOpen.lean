/-
  What the rows hand a walk: the library's table as the row lists it, and a slice of ints that came in, read as a list.
-/
import Derived.Test.YtnhlafifmiiliaaDoorWorks
import Derived.Test.YtnhlafifmiiliaaDoorCards
import Derived.Test.YtnhlafifmiiliaaDoorTie
import Derived.ProofKit
import Derived.OpenShut
import Derived.ChangeOld
import Derived.Deep.DeepHandedRow
import Derived.Lib.LaidTab
import Derived.SizedLaws
namespace Go.Proofs.YtnhlafifmiiliaaDoor
open Go.ChangeShapes Go.WideShapes Go.ChangeAt Go.RowKit

theorem own : ownKnob Tryd.prog.godebug = none := by kernel_rfl
theorem laidOut : laidOutB Tryd.prog = true := by kernel_rfl
theorem gTab : Tryd.prog.globalNamed "math/bits.deBruijn64tab" = some 0 := by kernel_rfl
theorem gTabType : (Tryd.prog.globals[0]?).map (·.type) = some 66 := by kernel_rfl
theorem cells66 : Tryd.prog.cellsOf 66 = 64 := by kernel_rfl
theorem cells5 : Tryd.prog.cellsOf 5 = 1 := by kernel_rfl

def tabInts : List Int := Lib.deBruijn64tab.map fun (n : Nat) => (n : Int)

theorem tab_of {W : World} (h : laidMetH Tryd.prog [("math/bits.deBruijn64tab", Rows.laid_math_bits_deBruijn64tab)] W) : Tab W := by
  have hT : Lib.TabIs Tryd.prog W "math/bits.deBruijn64tab" .u8 tabInts :=
    Lib.tabIs_of_head (rest := []) gTab gTabType Tryd.underlying66 Tryd.underlying5 cells5 cells66 h
  intro j hj
  have := hT.cell gTab j (by simpa [tabInts, Lib.deBruijn64tab] using hj)
  rw [this]
  congr 2
  have hl : j < Lib.deBruijn64tab.length := hj
  simp [tabInts, hl]

/-- A slice of ints that came in, as the walks want it. -/
theorem ints_in {H : Type} {enc : TypeId × Value → H} {W : World} {a : Option Addr} {len cap : Nat} {d : DataW H} {p : List MemPlace}
    (h : DataW.Trod enc Tryd.prog W 0 (fun _ => true) true 39 (Value.slice a len cap) d p) :
    ∃ l : List Int, len = l.length ∧ IntsAt W a l ∧ I64s l ∧ len ≤ 9223372036854775807 ∧ (a = none → cap = 0) ∧ (len = 0 ∨ ∃ es sp, d = .slice es sp ∧ es.length = len) := by
  obtain ⟨fuel, hf⟩ := h
  rcases open_ints Tryd.underlying39 Tryd.underlying3 (by kernel_rfl) hf with ⟨hcs, _⟩ | ⟨x, l, c, zs, hcs, _, hl, hm, hz, hx, hcell, hwz⟩
  · simp [Value.cells] at hcs
    obtain ⟨rfl, rfl, rfl⟩ := hcs
    exact ⟨[], rfl, IntsAt.nil _ _, fun i hi => by simp at hi, by omega, fun _ => rfl, Or.inl rfl⟩
  · simp [Value.cells] at hcs
    obtain ⟨rfl, rfl, rfl⟩ := hcs
    have hz' : zs.length = cap := by simpa using hz
    have hlen : (zs.take len).length = len := by simp; omega
    refine ⟨zs.take len, hlen.symm, fun i hi => ?_, fun i hi => ?_, by unfold maxLen at hm; omega, (fun h => by cases h), Or.inr ⟨_, _, (Prod.mk.inj hx).1, by simp [lits]; omega⟩⟩
    · have hi' : i < zs.length := by omega
      obtain ⟨b, off, rfl, hc⟩ := ints_at hcell (by omega)
      refine ⟨b, off, rfl, ?_⟩
      have e : (zs.take len).getD i 0 = zs.getD i 0 := by
        simp only [List.getD_eq_getElem?_getD]
        rw [List.getElem?_take_of_lt (by omega)]
      rw [e]
      exact hc i hi'
    · have hi' : i < zs.length := by omega
      have := hwz (zs[i]) (List.getElem_mem hi')
      rw [List.getElem_take]
      exact bounds_i64 this

theorem bytes3 : Tryd.prog.bytesOf 3 = 8 := by kernel_rfl
/-- How long it may be, by the form's own reach. -/
theorem reach_in {H : Type} {ts : List TypeId} {ds : List (DataW H)} (h : (DataW.weightsEach Tryd.prog ts ds).all (· ≤ reachBytes) = true) (j : Nat) {d : DataW H} {len : Nat} (ht : ts[j]? = some 39) (hd : ds[j]? = some d)
    (hs : len = 0 ∨ ∃ es sp, d = .slice es sp ∧ es.length = len) : len * 8 ≤ 140737488351232 := by
  rcases hs with rfl | ⟨es, sp, rfl, rfl⟩
  · omega
  · have := sized_slice h ht hd Tryd.underlying39
    rw [bytes3] at this
    unfold reachBytes at this
    omega

end Go.Proofs.YtnhlafifmiiliaaDoor
