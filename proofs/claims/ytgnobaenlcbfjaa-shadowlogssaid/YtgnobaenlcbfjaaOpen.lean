/-
  What the rows hand a walk: a slice of acts that came in, read as a list; a slice of ints.
-/
import Derived.Test.YtgnobaenlcbfjaaOwn
import Derived.Test.YtgnobaenlcbfjaaRecs
import Derived.ProofKit
import Derived.OpenShut
import Derived.ChangeOld
import Derived.Deep.DeepHandedRow
import Derived.Deep.MidRow
import Derived.SizedLaws
import Derived.ChangeMaps5
namespace Go.Proofs.Ytgnobaenlcbfjaa
open Go.ChangeShapes Go.WideShapes Go.ChangeAt Go.RowKit

/-- An act: whether in, the group, the place, the word, how many are there. -/
structure Ac where
  o : Bool
  g : Int
  t : Int
  x : Nat
  r : Int
structure AcW (r : Ac) : Prop where
  x : r.x < 18446744073709551616
def acCells (r : Ac) : List Value := [.bool r.o, .int .i64 r.g, .int .i64 r.t, .int .u64 (r.x : Int), .int .i64 r.r]
structure ActsAt (w : World) (a : Option Addr) (l : List Ac) : Prop where
  c : ∀ i (h : i < l.length), ∃ b off, a = some ⟨b, off, none⟩ ∧ w.rangeAt b (off + i * 5) (acCells l[i])
  w : ∀ r ∈ l, AcW r
theorem ActsAt.below {w w' : World} {a : Option Addr} {l : List Ac} (h : ActsAt w a l) (hb : Below w.heap.size w w') : ActsAt w' a l := by
  refine ⟨fun i hi => ?_, h.w⟩
  obtain ⟨b, off, rfl, h1⟩ := h.c i hi
  exact ⟨b, off, rfl, fun j v hv => cell_later hb (h1 j v hv)⟩
theorem ActsAt.at {w : World} {a : Option Addr} {l : List Ac} (h : ActsAt w a l) {i : Nat} (hi : i < l.length) : ∃ b off, a = some ⟨b, off, none⟩ ∧ w.cell? ⟨b, off + i * 5, none⟩ = some (.bool l[i].o) ∧ w.cell? ⟨b, off + i * 5 + 1, none⟩ = some (.int .i64 l[i].g) ∧ w.cell? ⟨b, off + i * 5 + 2, none⟩ = some (.int .i64 l[i].t) ∧ w.cell? ⟨b, off + i * 5 + 3, none⟩ = some (.int .u64 (l[i].x : Int)) ∧ w.cell? ⟨b, off + i * 5 + 4, none⟩ = some (.int .i64 l[i].r) ∧ AcW l[i] := by
  obtain ⟨b, off, rfl, h1⟩ := h.c i hi
  exact ⟨b, off, rfl, h1 0 _ rfl, h1 1 _ rfl, h1 2 _ rfl, h1 3 _ rfl, h1 4 _ rfl, h.w _ (List.getElem_mem hi)⟩

theorem own : ownKnob Try.prog.godebug = none := by kernel_rfl
theorem laidOut : laidOutB Try.prog = true := by kernel_rfl
theorem cells3 : Try.prog.cellsOf 3 = 1 := by kernel_rfl
theorem cells4 : Try.prog.cellsOf 4 = 1 := by kernel_rfl
theorem cells22 : Try.prog.cellsOf 22 = 1 := by kernel_rfl

theorem rec_of {H : Type} {enc : TypeId × Value → H} {w : World} {base : Nat} {spare : Nat → Bool} {held : Bool} (V : Nat → Value)
    (hV : ∀ (j : Nat) (f : Field), (Try.prog.fieldsOf 37)[j]? = some f → ∃ n y q, DataW.trod enc Try.prog w base spare held n f.type [V j] = some (y, q)) :
    ∃ r : Ac, acCells r = [V 0, V 1, V 2, V 3, V 4] ∧ AcW r := by
  obtain ⟨n0, y0, q0, g0⟩ := hV 0 _ rfl
  obtain ⟨n1, y1, q1, g1⟩ := hV 1 _ rfl
  obtain ⟨n2, y2, q2, g2⟩ := hV 2 _ rfl
  obtain ⟨n3, y3, q3, g3⟩ := hV 3 _ rfl
  obtain ⟨n4, y4, q4, g4⟩ := hV 4 _ rfl
  obtain ⟨O, e0, -⟩ := DataW.trod_bool Try.underlying4 g0
  obtain ⟨G, e1, -, -⟩ := DataW.trod_int Try.underlying3 g1
  obtain ⟨A, e2, -, -⟩ := DataW.trod_int Try.underlying3 g2
  obtain ⟨X, e3, -, h3⟩ := DataW.trod_int Try.underlying22 g3
  obtain ⟨R, e4, -, -⟩ := DataW.trod_int Try.underlying3 g4
  have hb := bounds_u64 h3
  obtain ⟨x, rfl⟩ := Int.eq_ofNat_of_zero_le hb.1
  simp at e0 e1 e2 e3 e4
  exact ⟨⟨O, G, A, x, R⟩, by rw [e0, e1, e2, e3, e4]; rfl, ⟨by show x < _; omega⟩⟩

theorem under37 : Try.prog.underlying 37 = some (.struct (Try.prog.fieldsOf 37)) := by kernel_rfl
theorem size37 : (Try.prog.fieldsOf 37).size = 5 := by kernel_rfl
theorem fields37 : ∀ (j : Nat) (f : Field), (Try.prog.fieldsOf 37)[j]? = some f → f.offset = j ∧ Try.prog.cellsOf f.type = 1 := by
  intro j f hf
  have hj : j < (Try.prog.fieldsOf 37).size := by
    by_cases hj : j < (Try.prog.fieldsOf 37).size
    · exact hj
    · rw [Array.getElem?_eq_none (by omega)] at hf; cases hf
  rw [size37] at hj
  have : j = 0 ∨ j = 1 ∨ j = 2 ∨ j = 3 ∨ j = 4 := by omega
  rcases this with rfl | rfl | rfl | rfl | rfl
  · obtain rfl := Option.some.inj hf; exact ⟨rfl, cells4⟩
  · obtain rfl := Option.some.inj hf; exact ⟨rfl, cells3⟩
  · obtain rfl := Option.some.inj hf; exact ⟨rfl, cells3⟩
  · obtain rfl := Option.some.inj hf; exact ⟨rfl, cells22⟩
  · obtain rfl := Option.some.inj hf; exact ⟨rfl, cells3⟩

/-- A slice of acts that came in, as the walks want it. -/
theorem acts_in {H : Type} {enc : TypeId × Value → H} {W : World} {a : Option Addr} {len cap : Nat} {d : DataW H} {p : List MemPlace}
    (h : DataW.Trod enc Try.prog W 0 (fun _ => true) true 30 (Value.slice a len cap) d p) :
    ∃ l : List Ac, len = l.length ∧ ActsAt W a l := by
  obtain ⟨-, -, V, hV⟩ := open_recs Try.underlying30 under37 (by kernel_rfl) (by rw [size37]; decide) fields37 h
  have each : ∀ i, i < len → ∃ r : Ac, acCells r = [V i 0, V i 1, V i 2, V i 3, V i 4] ∧ AcW r := by
    intro i hi
    obtain ⟨b, off, -, g⟩ := hV i hi
    exact rec_of (enc := enc) (w := W) (V i) (fun j f hf => (g j f hf).2)
  have inh : Inhabited Ac := ⟨⟨false, 0, 0, 0, 0⟩⟩
  obtain ⟨f, hfn⟩ := Deep.choose_lt each
  refine ⟨(List.range len).map f, by simp, ⟨fun i hi => ?_, fun r hr => ?_⟩⟩
  · have hi' : i < len := by simpa using hi
    obtain ⟨b, off, rfl, g⟩ := hV i hi'
    refine ⟨b, off, rfl, fun j v hv => ?_⟩
    rw [size37] at g
    have e : ((List.range len).map f)[i] = f i := by simp
    rw [e, (hfn i hi').1] at hv
    have hj : j < 5 := by
      have := (List.getElem?_eq_some_iff.1 hv).1
      simpa using this
    have hf : ∃ f, (Try.prog.fieldsOf 37)[j]? = some f := ⟨_, Array.getElem?_eq_getElem (by rw [size37]; exact hj)⟩
    obtain ⟨fl, hfl⟩ := hf
    obtain ⟨g1, -⟩ := g j fl hfl
    rw [g1]
    have : j = 0 ∨ j = 1 ∨ j = 2 ∨ j = 3 ∨ j = 4 := by omega
    rcases this with rfl | rfl | rfl | rfl | rfl <;> simpa using hv
  · obtain ⟨i, hi, rfl⟩ := List.mem_map.1 hr
    exact (hfn i (by simpa using hi)).2

/-- A slice of ints that came in. -/
theorem ints_in {H : Type} {enc : TypeId × Value → H} {W : World} {a : Option Addr} {len cap : Nat} {d : DataW H} {p : List MemPlace}
    (h : DataW.Trod enc Try.prog W 0 (fun _ => true) true 40 (Value.slice a len cap) d p) :
    ∃ l : List Int, len = l.length ∧ IntsAt W a l := by
  obtain ⟨fuel, hf⟩ := h
  rcases open_ints Try.underlying40 Try.underlying3 (by kernel_rfl) hf with ⟨hcs, _⟩ | ⟨x, l, c, zs, hcs, _, hl, hm, hz, hx, hcell, hwz⟩
  · simp [Value.cells] at hcs
    obtain ⟨rfl, rfl, rfl⟩ := hcs
    exact ⟨[], rfl, IntsAt.nil _ _⟩
  · simp [Value.cells] at hcs
    obtain ⟨rfl, rfl, rfl⟩ := hcs
    have hz' : zs.length = cap := by simpa using hz
    have hlen : (zs.take len).length = len := by simp; omega
    refine ⟨zs.take len, hlen.symm, fun i hi => ?_⟩
    have hi' : i < zs.length := by omega
    obtain ⟨b, off, rfl, hc⟩ := ints_at hcell (by omega)
    refine ⟨b, off, rfl, ?_⟩
    have e : (zs.take len).getD i 0 = zs.getD i 0 := by
      simp only [List.getD_eq_getElem?_getD]
      rw [List.getElem?_take_of_lt (by omega)]
    rw [e]
    exact hc i hi'
end Go.Proofs.Ytgnobaenlcbfjaa
