/-
  What the rows hand a walk: a slice of acts that came in, read as a list.
-/
import Derived.Test.YtbceadnhfihlfaaOwn
import Derived.Test.YtbceadnhfihlfaaRecs
import Derived.ProofKit
import Derived.OpenShut
import Derived.ChangeOld
import Derived.Deep.DeepHandedRow
import Derived.SizedLaws
import Derived.ChangeMaps5
namespace Go.Proofs.Ytbceadnhfihlfaa
open Go.ChangeShapes Go.WideShapes Go.ChangeAt Go.RowKit

structure Ac where
  g : Int
  off : Bool
def acCells (r : Ac) : List Value := [.int .i64 r.g, .bool r.off]
def ActsAt (w : World) (a : Option Addr) (l : List Ac) : Prop :=
  ∀ i (h : i < l.length), ∃ b off, a = some ⟨b, off, none⟩ ∧ w.rangeAt b (off + i * 2) (acCells l[i])
theorem ActsAt.below {w w' : World} {a : Option Addr} {l : List Ac} (h : ActsAt w a l) (hb : Below w.heap.size w w') : ActsAt w' a l := by
  intro i hi
  obtain ⟨b, off, rfl, h1⟩ := h i hi
  exact ⟨b, off, rfl, fun j v hv => cell_later hb (h1 j v hv)⟩
theorem ActsAt.at {w : World} {a : Option Addr} {l : List Ac} (h : ActsAt w a l) {i : Nat} (hi : i < l.length) : ∃ b off, a = some ⟨b, off, none⟩ ∧ w.cell? ⟨b, off + i * 2, none⟩ = some (.int .i64 l[i].g) ∧ w.cell? ⟨b, off + i * 2 + 1, none⟩ = some (.bool l[i].off) := by
  obtain ⟨b, off, rfl, h1⟩ := h i hi
  exact ⟨b, off, rfl, h1 0 _ rfl, h1 1 _ rfl⟩
/-- What one act does. -/
def doA (G : Gr) (r : Ac) : Gr := if r.off then remG G r.g else addG G r.g
/-- What the acts up to one do. -/
def doN (l : List Ac) (i : Nat) : Gr := (l.take i).foldl doA newG
theorem doN_zero (l : List Ac) : doN l 0 = newG := rfl
theorem doN_succ (l : List Ac) (i : Nat) (h : i < l.length) : doN l (i + 1) = doA (doN l i) l[i] := by
  unfold doN
  rw [List.take_succ_eq_append_getElem h, List.foldl_append]
  rfl

theorem own : ownKnob Try.prog.godebug = none := by kernel_rfl
theorem laidOut : laidOutB Try.prog = true := by kernel_rfl
theorem cells3 : Try.prog.cellsOf 3 = 1 := by kernel_rfl
theorem cells4 : Try.prog.cellsOf 4 = 1 := by kernel_rfl

theorem rec_of {H : Type} {enc : TypeId × Value → H} {w : World} {base : Nat} {spare : Nat → Bool} {held : Bool} (V : Nat → Value)
    (hV : ∀ (j : Nat) (f : Field), (Try.prog.fieldsOf 29)[j]? = some f → ∃ n y q, DataW.trod enc Try.prog w base spare held n f.type [V j] = some (y, q)) :
    ∃ r : Ac, acCells r = [V 0, V 1] := by
  obtain ⟨n0, y0, q0, g0⟩ := hV 0 _ rfl
  obtain ⟨n1, y1, q1, g1⟩ := hV 1 _ rfl
  obtain ⟨K, e0, -, -⟩ := DataW.trod_int Try.underlying3 g0
  obtain ⟨A, e1, -⟩ := DataW.trod_bool Try.underlying4 g1
  simp at e0 e1
  exact ⟨⟨K, A⟩, by rw [e0, e1]; rfl⟩

theorem under29 : Try.prog.underlying 29 = some (.struct (Try.prog.fieldsOf 29)) := by kernel_rfl
theorem fields29 : ∀ (j : Nat) (f : Field), (Try.prog.fieldsOf 29)[j]? = some f → f.offset = j ∧ Try.prog.cellsOf f.type = 1 := by
  intro j f hf
  have hj : j < (Try.prog.fieldsOf 29).size := by
    by_cases hj : j < (Try.prog.fieldsOf 29).size
    · exact hj
    · rw [Array.getElem?_eq_none (by omega)] at hf; cases hf
  have h5 : (Try.prog.fieldsOf 29).size = 2 := by kernel_rfl
  rw [h5] at hj
  have : j = 0 ∨ j = 1 := by omega
  rcases this with rfl | rfl
  · obtain rfl := Option.some.inj hf; exact ⟨rfl, cells3⟩
  · obtain rfl := Option.some.inj hf; exact ⟨rfl, cells4⟩

/-- A slice of acts that came in, as the walks want it. -/
theorem acts_in {H : Type} {enc : TypeId × Value → H} {W : World} {a : Option Addr} {len cap : Nat} {d : DataW H} {p : List MemPlace}
    (h : DataW.Trod enc Try.prog W 0 (fun _ => true) true 22 (Value.slice a len cap) d p) :
    ∃ l : List Ac, len = l.length ∧ ActsAt W a l := by
  have h5 : (Try.prog.fieldsOf 29).size = 2 := by kernel_rfl
  obtain ⟨-, -, V, hV⟩ := open_recs Try.underlying22 under29 (by kernel_rfl) (by rw [h5]; decide) fields29 h
  have each : ∀ i, i < len → ∃ r : Ac, acCells r = [V i 0, V i 1] := by
    intro i hi
    obtain ⟨b, off, -, g⟩ := hV i hi
    exact rec_of (enc := enc) (w := W) (V i) (fun j f hf => (g j f hf).2)
  have inh : Inhabited Ac := ⟨⟨0, false⟩⟩
  obtain ⟨f, hfn⟩ := Deep.choose_lt each
  refine ⟨(List.range len).map f, by simp, fun i hi => ?_⟩
  have hi' : i < len := by simpa using hi
  obtain ⟨b, off, rfl, g⟩ := hV i hi'
  refine ⟨b, off, rfl, fun j v hv => ?_⟩
  rw [h5] at g
  have e : ((List.range len).map f)[i] = f i := by simp
  rw [e, hfn i hi'] at hv
  have hj : j < 2 := by
    have := (List.getElem?_eq_some_iff.1 hv).1
    simpa using this
  have hf : ∃ f, (Try.prog.fieldsOf 29)[j]? = some f := ⟨_, Array.getElem?_eq_getElem (by rw [h5]; exact hj)⟩
  obtain ⟨fl, hfl⟩ := hf
  obtain ⟨g1, -⟩ := g j fl hfl
  rw [g1]
  have : j = 0 ∨ j = 1 := by omega
  rcases this with rfl | rfl <;> simpa using hv
end Go.Proofs.Ytbceadnhfihlfaa
