/-
  What the rows hand a walk: a slice of nodes that came in, read as a list; a slice of ints.
-/
import Derived.Test.YtimgpikgkbjliaaP4
import Derived.Test.YtimgpikgkbjliaaRecs
import Derived.Lib.SmallJoins
import Derived.ProofKit
import Derived.OpenShut
import Derived.ChangeOld
import Derived.Deep.DeepHandedRow
import Derived.SizedLaws
import Derived.ChangeMaps5
namespace Go.Proofs.Ytimgpikgkbjliaa
open Go.ChangeShapes Go.WideShapes Go.ChangeAt Go.RowKit

theorem ownKnobNo : ownKnob Try.prog.godebug = none := by kernel_rfl
theorem laidOut : laidOutB Try.prog = true := by kernel_rfl
theorem cells38 : Try.prog.cellsOf 38 = 3 := by kernel_rfl
theorem cells3 : Try.prog.cellsOf 3 = 1 := by kernel_rfl
theorem under38 : Try.prog.underlying 38 = some (.struct (Try.prog.fieldsOf 38)) := by kernel_rfl
theorem size38 : (Try.prog.fieldsOf 38).size = 3 := by kernel_rfl

theorem rec_of {H : Type} {enc : TypeId × Value → H} {w : World} {base : Nat} {spare : Nat → Bool} {held : Bool} (V : Nat → Value)
    (hV : ∀ (j : Nat) (f : Field), (Try.prog.fieldsOf 38)[j]? = some f → ∃ n y q, DataW.trod enc Try.prog w base spare held n f.type [V j] = some (y, q)) :
    ∃ r : Nd, nc r = [V 0, V 1, V 2] := by
  obtain ⟨n0, y0, q0, g0⟩ := hV 0 _ rfl
  obtain ⟨n1, y1, q1, g1⟩ := hV 1 _ rfl
  obtain ⟨n2, y2, q2, g2⟩ := hV 2 _ rfl
  obtain ⟨a0, e0, -, -⟩ := DataW.trod_int Try.underlying3 g0
  obtain ⟨a1, e1, -, -⟩ := DataW.trod_int Try.underlying3 g1
  obtain ⟨a2, e2, -, -⟩ := DataW.trod_int Try.underlying3 g2
  simp at e0 e1 e2
  exact ⟨⟨a0, a1, a2⟩, by rw [e0, e1, e2]; rfl⟩
theorem flds38 : ∀ (j : Nat) (f : Field), (Try.prog.fieldsOf 38)[j]? = some f → f.offset = j ∧ Try.prog.cellsOf f.type = 1 := by
  intro j f hf
  have hj : j < (Try.prog.fieldsOf 38).size := by
    by_cases hj : j < (Try.prog.fieldsOf 38).size
    · exact hj
    · rw [Array.getElem?_eq_none (by omega)] at hf; cases hf
  rw [size38] at hj
  have : j = 0 ∨ j = 1 ∨ j = 2 := by omega
  rcases this with rfl | rfl | rfl
  · obtain rfl := Option.some.inj hf; exact ⟨rfl, cells3⟩
  · obtain rfl := Option.some.inj hf; exact ⟨rfl, cells3⟩
  · obtain rfl := Option.some.inj hf; exact ⟨rfl, cells3⟩

/-- A slice of nodes that came in, as the walks want it. -/
structure ListIn (W : World) (a : Option Addr) (cap : Nat) (L : List Nd) : Prop where
  nds : Nds W a cap L
  le : L.length ≤ 9223372036854775807
theorem nds_in {H : Type} {enc : TypeId × Value → H} {W : World} {a : Option Addr} {len cap : Nat} {d : DataW H} {p : List MemPlace}
    (h : DataW.Trod enc Try.prog W 0 (fun _ => true) true 22 (Value.slice a len cap) d p) :
    ∃ L : List Nd, len = L.length ∧ ListIn W a cap L := by
  obtain ⟨hnil, ⟨hle, hmax⟩, V, hV⟩ := open_recs Try.underlying22 under38 (by rw [size38]; exact cells38) (by rw [size38]; decide) flds38 h
  rw [size38] at hV
  have each : ∀ i, i < len → ∃ r : Nd, nc r = [V i 0, V i 1, V i 2] := by
    intro i hi
    obtain ⟨b, off, -, g⟩ := hV i hi
    exact rec_of (enc := enc) (w := W) (V i) (fun j f hf => (g j f hf).2)
  have inh : Inhabited Nd := ⟨nz⟩
  obtain ⟨f, hfn⟩ := Deep.choose_lt each
  have hll : ((List.range len).map f).length = len := by simp
  refine ⟨(List.range len).map f, by simp, ⟨by rw [hll]; exact hle, hnil, fun i hi => ?_⟩, by rw [hll]; unfold maxLen at hmax; omega⟩
  have hi' : i < len := by simpa using hi
  obtain ⟨b, off, rfl, g⟩ := hV i hi'
  refine ⟨b, off, rfl, fun j v hv => ?_⟩
  have e : ((List.range len).map f).getD i nz = f i := by simp [hi']
  rw [e, hfn i hi'] at hv
  have hj : j < 3 := by
    have := (List.getElem?_eq_some_iff.1 hv).1
    simpa using this
  have hf : ∃ fd, (Try.prog.fieldsOf 38)[j]? = some fd := ⟨(Try.prog.fieldsOf 38)[j]'(by rw [size38]; exact hj), Array.getElem?_eq_getElem _⟩
  obtain ⟨fd, hfd⟩ := hf
  have h1 := (g j fd hfd).1
  rw [h1, ← hv]
  have : j = 0 ∨ j = 1 ∨ j = 2 := by omega
  rcases this with rfl | rfl | rfl <;> rfl

/-- A slice of ints that came in. -/
structure IntsIn (W : World) (a : Option Addr) (N : List Int) : Prop where
  ints : Ints W a N
  le : N.length ≤ 9223372036854775807
theorem ints_in {H : Type} {enc : TypeId × Value → H} {W : World} {a : Option Addr} {len cap : Nat} {d : DataW H} {p : List MemPlace}
    (h : DataW.Trod enc Try.prog W 0 (fun _ => true) true 25 (Value.slice a len cap) d p) :
    ∃ N : List Int, len = N.length ∧ IntsIn W a N := by
  obtain ⟨fuel, hf⟩ := h
  rcases open_ints Try.underlying25 Try.underlying3 (by kernel_rfl) hf with ⟨hcs, _⟩ | ⟨x, l, c, zs, hcs, _, hl, hm, hz, hx, hcell, hwz⟩
  · simp [Value.cells] at hcs
    obtain ⟨rfl, rfl, rfl⟩ := hcs
    exact ⟨[], rfl, ⟨fun i hi => by simp at hi⟩, by simp⟩
  · simp [Value.cells] at hcs
    obtain ⟨rfl, rfl, rfl⟩ := hcs
    have hz' : zs.length = cap := by simpa using hz
    have hlen : (zs.take len).length = len := by simp; omega
    refine ⟨zs.take len, hlen.symm, ⟨fun i hi => ?_⟩, by rw [hlen]; unfold maxLen at hm; omega⟩
    have hi' : i < zs.length := by omega
    obtain ⟨b, off, rfl, hc⟩ := ints_at hcell (by omega)
    refine ⟨b, off, rfl, ?_⟩
    have e : (zs.take len).getD i 0 = zs.getD i 0 := by
      simp only [List.getD_eq_getElem?_getD]
      rw [List.getElem?_take_of_lt (by omega)]
    rw [e]
    exact hc i hi'
end Go.Proofs.Ytimgpikgkbjliaa
