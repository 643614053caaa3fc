/-
  What the rows hand a walk: a slice of acts that came in, read as a list; a string, a byte.
-/
import Derived.Test.YtidjbkjbfblknaaOwn
import Derived.Test.YtidjbkjbfblknaaRecs
import Derived.ProofKit
import Derived.OpenShut
import Derived.ChangeOld
import Derived.Deep.DeepHandedRow
import Derived.SizedLaws
import Derived.ChangeMaps5
namespace Go.Proofs.Ytidjbkjbfblknaa
open Go.ChangeShapes Go.WideShapes Go.ChangeAt Go.RowKit

theorem own : ownKnob Try.prog.godebug = none := by kernel_rfl
theorem laidOut : laidOutB Try.prog = true := by kernel_rfl
theorem cells29 : Try.prog.cellsOf 29 = 5 := by kernel_rfl
theorem cells3 : Try.prog.cellsOf 3 = 1 := by kernel_rfl
theorem cells9 : Try.prog.cellsOf 9 = 1 := by kernel_rfl

theorem byte_of {x : Int} (h0 : 0 ≤ x) (h1 : x ≤ 255) : ∃ b : UInt8, Value.int .u8 x = bv b := by
  refine ⟨UInt8.ofNat x.toNat, ?_⟩
  unfold bv
  have : (UInt8.ofNat x.toNat).toNat = x.toNat := by simp; omega
  rw [this]
  congr 1
  omega
theorem text_of (s : ByteArray) : ∃ T : List UInt8, s = ⟨T.toArray⟩ := ⟨s.data.toList, by simp⟩

theorem rec_of {H : Type} {enc : TypeId × Value → H} {w : World} {base : Nat} {spare : Nat → Bool} {held : Bool} (V : Nat → Value)
    (hV : ∀ (j : Nat) (f : Field), (Try.prog.fieldsOf 29)[j]? = some f → ∃ n y q, DataW.trod enc Try.prog w base spare held n f.type [V j] = some (y, q)) :
    ∃ r : Rec, recCells r = [V 0, V 1, V 2, V 3, V 4] := by
  obtain ⟨n0, y0, q0, g0⟩ := hV 0 _ rfl
  obtain ⟨n1, y1, q1, g1⟩ := hV 1 _ rfl
  obtain ⟨n2, y2, q2, g2⟩ := hV 2 _ rfl
  obtain ⟨n3, y3, q3, g3⟩ := hV 3 _ rfl
  obtain ⟨n4, y4, q4, g4⟩ := hV 4 _ rfl
  obtain ⟨K, e0, -, -⟩ := DataW.trod_int Try.underlying3 g0
  obtain ⟨I, e1, -, -⟩ := DataW.trod_int Try.underlying3 g1
  obtain ⟨A, e2, -, -⟩ := DataW.trod_int Try.underlying3 g2
  obtain ⟨B, e3, -, b3⟩ := DataW.trod_int Try.underlying5 g3
  obtain ⟨S, e4, -⟩ := DataW.trod_string Try.underlying9 g4
  simp at e0 e1 e2 e3 e4
  obtain ⟨b, hb⟩ := byte_of (bounds_u8 b3).1 (bounds_u8 b3).2
  obtain ⟨T, hT⟩ := text_of S
  exact ⟨⟨K, I, A, b, T⟩, by rw [e0, e1, e2, e3, e4, hb, hT]; rfl⟩

theorem under29 : Try.prog.underlying 29 = some (.struct (Try.prog.fieldsOf 29)) := by kernel_rfl
theorem fields29 : ∀ (j : Nat) (f : Field), (Try.prog.fieldsOf 29)[j]? = some f → f.offset = j ∧ Try.prog.cellsOf f.type = 1 := by
  intro j f hf
  have hj : j < (Try.prog.fieldsOf 29).size := by
    by_cases hj : j < (Try.prog.fieldsOf 29).size
    · exact hj
    · rw [Array.getElem?_eq_none (by omega)] at hf; cases hf
  have h5 : (Try.prog.fieldsOf 29).size = 5 := by kernel_rfl
  rw [h5] at hj
  have : j = 0 ∨ j = 1 ∨ j = 2 ∨ j = 3 ∨ j = 4 := by omega
  rcases this with rfl | rfl | rfl | rfl | rfl
  · obtain rfl := Option.some.inj hf; exact ⟨rfl, cells3⟩
  · obtain rfl := Option.some.inj hf; exact ⟨rfl, cells3⟩
  · obtain rfl := Option.some.inj hf; exact ⟨rfl, cells3⟩
  · obtain rfl := Option.some.inj hf; exact ⟨rfl, cells5⟩
  · obtain rfl := Option.some.inj hf; exact ⟨rfl, cells9⟩

/-- A slice of acts that came in, as the walks want it. -/
theorem acts_in {H : Type} {enc : TypeId × Value → H} {W : World} {a : Option Addr} {len cap : Nat} {d : DataW H} {p : List MemPlace}
    (h : DataW.Trod enc Try.prog W 0 (fun _ => true) true 22 (Value.slice a len cap) d p) :
    ∃ l : List Rec, len = l.length ∧ ActsAt W a l := by
  have h5 : (Try.prog.fieldsOf 29).size = 5 := by kernel_rfl
  obtain ⟨-, -, V, hV⟩ := open_recs Try.underlying22 under29 (by kernel_rfl) (by rw [h5]; decide) fields29 h
  have each : ∀ i, i < len → ∃ r : Rec, recCells r = [V i 0, V i 1, V i 2, V i 3, V i 4] := by
    intro i hi
    obtain ⟨b, off, -, g⟩ := hV i hi
    exact rec_of (enc := enc) (w := W) (V i) (fun j f hf => (g j f hf).2)
  have inh : Inhabited Rec := ⟨⟨0, 0, 0, 0, []⟩⟩
  obtain ⟨f, hfn⟩ := Deep.choose_lt each
  refine ⟨(List.range len).map f, by simp, fun i hi => ?_⟩
  have hi' : i < len := by simpa using hi
  obtain ⟨b, off, rfl, g⟩ := hV i hi'
  refine ⟨b, off, rfl, fun j v hv => ?_⟩
  rw [h5] at g
  have e : ((List.range len).map f)[i] = f i := by simp
  rw [e, hfn i hi'] at hv
  have hj : j < 5 := by
    have := (List.getElem?_eq_some_iff.1 hv).1
    simpa using this
  have hf : ∃ f, (Try.prog.fieldsOf 29)[j]? = some f := ⟨_, Array.getElem?_eq_getElem (by rw [h5]; exact hj)⟩
  obtain ⟨fl, hfl⟩ := hf
  obtain ⟨g1, -⟩ := g j fl hfl
  rw [g1]
  have : j = 0 ∨ j = 1 ∨ j = 2 ∨ j = 3 ∨ j = 4 := by omega
  rcases this with rfl | rfl | rfl | rfl | rfl <;> simpa using hv

end Go.Proofs.Ytidjbkjbfblknaa
