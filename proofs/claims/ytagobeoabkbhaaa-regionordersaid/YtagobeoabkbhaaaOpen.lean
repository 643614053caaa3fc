/-
  What the rows hand a walk: a slice of regions that came in, read as a list; a region that came in by value.
-/
import Derived.Test.YtagobeoabkbhaaaP3
import Derived.Test.YtagobeoabkbhaaaRecs
import Derived.Lib.SmallJoins
import Derived.ProofKit
import Derived.OpenShut
import Derived.ChangeOld
import Derived.Deep.DeepHandedRow
import Derived.SizedLaws
import Derived.ChangeMaps5
namespace Go.Proofs.Ytagobeoabkbhaaa
open Go.ChangeShapes Go.WideShapes Go.ChangeAt Go.RowKit

theorem own : ownKnob Try.prog.godebug = none := by kernel_rfl
theorem laidOut : laidOutB Try.prog = true := by kernel_rfl
theorem cells25 : Try.prog.cellsOf 25 = 6 := by kernel_rfl
theorem cells3 : Try.prog.cellsOf 3 = 1 := by kernel_rfl
theorem cells23 : Try.prog.cellsOf 23 = 1 := by kernel_rfl
theorem cells4 : Try.prog.cellsOf 4 = 1 := by kernel_rfl
theorem size25 : (Try.prog.fieldsOf 25).size = 6 := by kernel_rfl

/-- A region that fits a machine's words. -/
structure FitR (x : Rg) : Prop where
  f : -9223372036854775808 ≤ x.f ∧ x.f ≤ 9223372036854775807
  t : -9223372036854775808 ≤ x.t ∧ x.t ≤ 9223372036854775807

theorem rec_of {H : Type} {enc : TypeId × Value → H} {w : World} {base : Nat} {spare : Nat → Bool} {held : Bool} (V : Nat → Value)
    (hV : ∀ (j : Nat) (f : Field), (Try.prog.fieldsOf 25)[j]? = some f → ∃ n y q, DataW.trod enc Try.prog w base spare held n f.type [V j] = some (y, q)) :
    ∃ r : Rg, rc r = [V 0, V 1, V 2, V 3, V 4, V 5] ∧ FitR r := by
  obtain ⟨n0, y0, q0, g0⟩ := hV 0 _ rfl
  obtain ⟨n1, y1, q1, g1⟩ := hV 1 _ rfl
  obtain ⟨n2, y2, q2, g2⟩ := hV 2 _ rfl
  obtain ⟨n3, y3, q3, g3⟩ := hV 3 _ rfl
  obtain ⟨n4, y4, q4, g4⟩ := hV 4 _ rfl
  obtain ⟨n5, y5, q5, g5⟩ := hV 5 _ rfl
  obtain ⟨a0, e0, -, b0⟩ := DataW.trod_int Try.underlying3 g0
  obtain ⟨a1, e1, -, b1⟩ := DataW.trod_int Try.underlying3 g1
  obtain ⟨a2, e2, -, -⟩ := DataW.trod_int Try.underlying23 g2
  obtain ⟨a3, e3, -, -⟩ := DataW.trod_int Try.underlying3 g3
  obtain ⟨a4, e4, -, -⟩ := DataW.trod_int Try.underlying3 g4
  obtain ⟨a5, e5, -⟩ := DataW.trod_bool Try.underlying4 g5
  simp at e0 e1 e2 e3 e4 e5
  exact ⟨⟨a0, a1, a2, a3, a4, a5⟩, by rw [e0, e1, e2, e3, e4, e5]; rfl, ⟨bounds_i64 b0, bounds_i64 b1⟩⟩

theorem flds25 : ∀ (j : Nat) (f : Field), (Try.prog.fieldsOf 25)[j]? = some f → f.offset = j ∧ Try.prog.cellsOf f.type = 1 := by
  intro j f hf
  have hj : j < (Try.prog.fieldsOf 25).size := by
    by_cases hj : j < (Try.prog.fieldsOf 25).size
    · exact hj
    · rw [Array.getElem?_eq_none (by omega)] at hf; cases hf
  rw [size25] at hj
  have : j = 0 ∨ j = 1 ∨ j = 2 ∨ j = 3 ∨ j = 4 ∨ j = 5 := by omega
  rcases this with rfl | rfl | rfl | rfl | rfl | rfl
  · obtain rfl := Option.some.inj hf; exact ⟨rfl, cells3⟩
  · obtain rfl := Option.some.inj hf; exact ⟨rfl, cells3⟩
  · obtain rfl := Option.some.inj hf; exact ⟨rfl, cells23⟩
  · obtain rfl := Option.some.inj hf; exact ⟨rfl, cells3⟩
  · obtain rfl := Option.some.inj hf; exact ⟨rfl, cells3⟩
  · obtain rfl := Option.some.inj hf; exact ⟨rfl, cells4⟩

/-- A slice of regions that came in, as the walks want it. -/
structure ListIn (W : World) (a : Option Addr) (cap : Nat) (L : List Rg) : Prop where
  regs : Regs W a cap L
  le : L.length ≤ 9223372036854775807
theorem regs_in {H : Type} {enc : TypeId × Value → H} {W : World} {a : Option Addr} {len cap : Nat} {d : DataW H} {p : List MemPlace}
    (h : DataW.Trod enc Try.prog W 0 (fun _ => true) true 22 (Value.slice a len cap) d p) :
    ∃ L : List Rg, len = L.length ∧ ListIn W a cap L := by
  obtain ⟨hnil, ⟨hle, hmax⟩, V, hV⟩ := open_recs Try.underlying22 under25 (by rw [size25]; exact cells25) (by rw [size25]; decide) flds25 h
  rw [size25] at hV
  have each : ∀ i, i < len → ∃ r : Rg, rc r = [V i 0, V i 1, V i 2, V i 3, V i 4, V i 5] ∧ FitR r := by
    intro i hi
    obtain ⟨b, off, -, g⟩ := hV i hi
    exact rec_of (enc := enc) (w := W) (V i) (fun j f hf => (g j f hf).2)
  have inh : Inhabited Rg := ⟨zeroR⟩
  obtain ⟨f, hfn⟩ := Deep.choose_lt each
  have hll : ((List.range len).map f).length = len := by simp
  refine ⟨(List.range len).map f, by simp, ⟨by rw [hll]; exact hle, hnil, fun i hi => ?_⟩, by rw [hll]; unfold maxLen at hmax; omega⟩
  have hi' : i < len := by simpa using hi
  obtain ⟨b, off, rfl, g⟩ := hV i hi'
  refine ⟨b, off, rfl, fun j v hv => ?_⟩
  have e : ((List.range len).map f)[i] = f i := by simp
  rw [e, (hfn i hi').1] at hv
  have hj : j < 6 := by
    have := (List.getElem?_eq_some_iff.1 hv).1
    simpa using this
  have hf : ∃ fd, (Try.prog.fieldsOf 25)[j]? = some fd := ⟨(Try.prog.fieldsOf 25)[j]'(by rw [size25]; exact hj), Array.getElem?_eq_getElem _⟩
  obtain ⟨fd, hfd⟩ := hf
  have h1 := (g j fd hfd).1
  rw [h1, ← hv]
  have : j = 0 ∨ j = 1 ∨ j = 2 ∨ j = 3 ∨ j = 4 ∨ j = 5 := by omega
  rcases this with rfl | rfl | rfl | rfl | rfl | rfl <;> rfl

/-- A region that came in. -/
theorem region_in {H : Type} {enc : TypeId × Value → H} {W : World} {r : Reach} {b0 : Nat} {v : Value} {d : DataW H} {p : List MemPlace} (hv : Value.okWide Try.prog W r b0 25 v)
    (h : DataW.Trod enc Try.prog W 0 (fun _ => true) true 25 v d p) : ∃ x : Rg, v = rv x ∧ FitR x := by
  obtain ⟨cs, rfl, hsz⟩ := okWide_struct under25 hv
  rw [cells25] at hsz
  obtain ⟨fuel, hf⟩ := h
  obtain ⟨xs, k, hk, hxy, _, hxl, hfl⟩ := DataW.trod_struct under25 hf
  rw [size25] at hxl
  have hcl : (Value.agg cs).cells.toList = cs.toList := rfl
  rw [hcl] at hfl
  have hlen : cs.toList.length = 6 := by simpa using hsz
  obtain ⟨q, hq, hfit⟩ := rec_of (enc := enc) (w := W) (base := 0) (spare := fun _ => true) (held := true) (fun j => cs.toList.getD j undef) (by
    intro j f hfj
    obtain ⟨o1, o2⟩ := flds25 j f hfj
    have hj : j < 6 := by
      by_cases hj : j < (Try.prog.fieldsOf 25).size
      · rw [size25] at hj; exact hj
      · rw [Array.getElem?_eq_none (by omega)] at hfj; cases hfj
    have hjl : j < cs.toList.length := by omega
    have e2 := hfl j f hfj
    rw [o1, o2] at e2
    have e3 : (cs.toList.drop j).take 1 = [cs.toList[j]] := by rw [List.drop_eq_getElem_cons hjl]; rfl
    rw [e3, List.getElem?_eq_getElem (by omega)] at e2
    have e4 : cs.toList.getD j undef = cs.toList[j] := by simp only [List.getD_eq_getElem?_getD, List.getElem?_eq_getElem hjl, Option.getD_some]
    rw [e4]
    exact ⟨k, _, _, e2⟩)
  refine ⟨q, ?_, hfit⟩
  have hcs : cs = (rc q).toArray := by
    rw [hq]
    apply Array.ext'
    apply List.ext_getElem
    · rw [hlen]; rfl
    · intro i h1 h2
      rw [hlen] at h1
      have : i = 0 ∨ i = 1 ∨ i = 2 ∨ i = 3 ∨ i = 4 ∨ i = 5 := by omega
      rcases this with rfl | rfl | rfl | rfl | rfl | rfl <;> simp [hsz]
  rw [hcs]
  rfl
end Go.Proofs.Ytagobeoabkbhaaa
