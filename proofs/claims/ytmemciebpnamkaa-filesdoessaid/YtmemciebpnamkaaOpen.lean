/-
  What the rows hand a walk: a slice of acts that came in, read as a list; a slice of ints; a key, a string.
-/
import Derived.Test.YtmemciebpnamkaaActs
import Derived.Test.YtmemciebpnamkaaRecs
import Derived.Lib.SmallJoins
import Derived.ProofKit
import Derived.OpenShut
import Derived.ChangeOld
import Derived.Deep.DeepHandedRow
import Derived.SizedLaws
import Derived.ChangeMaps5
namespace Go.Proofs.Ytmemciebpnamkaa
open Go.ChangeShapes Go.WideShapes Go.ChangeAt Go.RowKit

theorem own : ownKnob Try.prog.godebug = none := by kernel_rfl
theorem cells39 : Try.prog.cellsOf 39 = 3 := by kernel_rfl
theorem cells9 : Try.prog.cellsOf 9 = 1 := by kernel_rfl
theorem text_of (s : ByteArray) : ∃ T : List UInt8, s = ⟨T.toArray⟩ := ⟨s.data.toList, by simp⟩

theorem ent_of {H : Type} {enc : TypeId × Value → H} {w : World} {base : Nat} {spare : Nat → Bool} {held : Bool} {n : Nat} {cs : List Value} {y : DataW H × List MemPlace} (hl : cs.length = 3)
    (h : DataW.trod enc Try.prog w base spare held n 39 cs = some y) : ∃ e : Ent, entCells e = cs := by
  obtain ⟨xs, k, hk, hxy, _, hxl, hfl⟩ := DataW.trod_struct Try.underlying39 h
  match cs, hl with
  | [c0, c1, c2], _ =>
    have f0 : DataW.trod enc Try.prog w base spare held k 25 (([c0, c1, c2].drop 0).take (Try.prog.cellsOf 25)) = xs[0]? := hfl 0 _ rfl
    have f1 : DataW.trod enc Try.prog w base spare held k 9 (([c0, c1, c2].drop 2).take (Try.prog.cellsOf 9)) = xs[1]? := hfl 1 _ rfl
    rw [cells25] at f0
    rw [cells9] at f1
    have hx0 : ∃ y0, xs[0]? = some y0 := ⟨_, List.getElem?_eq_getElem (by rw [hxl]; decide)⟩
    have hx1 : ∃ y1, xs[1]? = some y1 := ⟨_, List.getElem?_eq_getElem (by rw [hxl]; decide)⟩
    obtain ⟨y0, hy0⟩ := hx0
    obtain ⟨y1, hy1⟩ := hx1
    rw [hy0] at f0
    rw [hy1] at f1
    simp at f0 f1
    obtain ⟨xs2, k2, hk2, hxy2, _, hxl2, hfl2⟩ := DataW.trod_struct Try.underlying25 f0
    have g0 : DataW.trod enc Try.prog w base spare held k2 3 (([c0, c1].drop 0).take (Try.prog.cellsOf 3)) = xs2[0]? := hfl2 0 _ rfl
    have g1 : DataW.trod enc Try.prog w base spare held k2 3 (([c0, c1].drop 1).take (Try.prog.cellsOf 3)) = xs2[1]? := hfl2 1 _ rfl

    rw [cells3] at g0 g1
    have hz0 : ∃ y0, xs2[0]? = some y0 := ⟨_, List.getElem?_eq_getElem (by rw [hxl2]; decide)⟩
    have hz1 : ∃ y1, xs2[1]? = some y1 := ⟨_, List.getElem?_eq_getElem (by rw [hxl2]; decide)⟩
    obtain ⟨z0, hz0⟩ := hz0
    obtain ⟨z1, hz1⟩ := hz1
    rw [hz0] at g0
    rw [hz1] at g1
    simp at g0 g1
    obtain ⟨F, e0, -, -⟩ := DataW.trod_int Try.underlying3 g0
    obtain ⟨I, e1, -, -⟩ := DataW.trod_int Try.underlying3 g1
    obtain ⟨S, e2, -⟩ := DataW.trod_string Try.underlying9 f1
    simp at e0 e1 e2
    obtain ⟨T, hT⟩ := text_of S
    exact ⟨⟨F, I, T⟩, by rw [e0, e1, e2, hT]; rfl⟩

/-- A slice of acts that came in, as the walks want it. -/
theorem acts_in {H : Type} {enc : TypeId × Value → H} {W : World} {a : Option Addr} {len cap : Nat} {d : DataW H} {p : List MemPlace}
    (h : DataW.Trod enc Try.prog W 0 (fun _ => true) true 23 (Value.slice a len cap) d p) :
    ∃ l : List Ent, len = l.length ∧ ActsAt W a l := by
  obtain ⟨-, -, V, hV⟩ := open_wide Try.underlying23 cells39 (by decide) h
  have each : ∀ i, i < len → ∃ e : Ent, entCells e = V i := by
    intro i hi
    obtain ⟨b, off, -, g1, g2, n, y, g3⟩ := hV i hi
    exact ent_of g1 g3
  have inh : Inhabited Ent := ⟨⟨0, 0, []⟩⟩
  obtain ⟨f, hfn⟩ := Deep.choose_lt each
  refine ⟨(List.range len).map f, by simp, fun i hi => ?_⟩
  have hi' : i < len := by simpa using hi
  obtain ⟨b, off, rfl, g1, g2, -⟩ := hV i hi'
  refine ⟨b, off, rfl, ?_⟩
  have e : ((List.range len).map f)[i] = f i := by simp
  rw [e, hfn i hi']
  exact g2

/-- A slice of ints that came in, as the walks want it. -/
theorem ints_in {H : Type} {enc : TypeId × Value → H} {W : World} {a : Option Addr} {len cap : Nat} {d : DataW H} {p : List MemPlace}
    (h : DataW.Trod enc Try.prog W 0 (fun _ => true) true 22 (Value.slice a len cap) d p) :
    ∃ l : List Int, len = l.length ∧ IntsAt W a l := by
  obtain ⟨-, -, V, hV⟩ := open_wide Try.underlying22 cells3 (by decide) h
  have each : ∀ i, i < len → ∃ x : Int, [Value.int .i64 x] = V i := by
    intro i hi
    obtain ⟨b, off, -, g1, g2, n, y, g3⟩ := hV i hi
    obtain ⟨F, e0, -, -⟩ := DataW.trod_int Try.underlying3 g3
    exact ⟨F, e0.symm⟩
  obtain ⟨f, hfn⟩ := Deep.choose_lt each
  refine ⟨(List.range len).map f, by simp, fun i hi => ?_⟩
  have hi' : i < len := by simpa using hi
  obtain ⟨b, off, rfl, g1, g2, -⟩ := hV i hi'
  refine ⟨b, off, rfl, ?_⟩
  have g3 := g2 0 (.int .i64 (f i)) (by rw [← hfn i hi']; rfl)
  have e : ((List.range len).map f).getD i 0 = f i := by simp [hi']
  rw [e, ← g3]
  simp

/-- A key that came in. -/
theorem key_in {H : Type} {enc : TypeId × Value → H} {W : World} {r : Reach} {b0 : Nat} {v : Value} {d : DataW H} {p : List MemPlace} (hv : Value.okWide Try.prog W r b0 25 v)
    (h : DataW.Trod enc Try.prog W 0 (fun _ => true) true 25 v d p) : ∃ f i : Int, v = .agg #[.int .i64 f, .int .i64 i] := by
  obtain ⟨v0, v1, y0, y1, n, rfl, -, -, g0, g1⟩ := Joins.open_agg2 Try.underlying25 (by kernel_rfl) cells25 hv h
  obtain ⟨F, e0, -, -⟩ := DataW.trod_int Try.underlying3 g0
  obtain ⟨I, e1, -, -⟩ := DataW.trod_int Try.underlying3 g1
  simp at e0 e1
  exact ⟨F, I, by rw [e0, e1]⟩

end Go.Proofs.Ytmemciebpnamkaa
