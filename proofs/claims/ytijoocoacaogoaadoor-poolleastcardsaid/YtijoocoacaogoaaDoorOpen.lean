/-
  What the rows hand a walk: the library's table as the row lists it, and a slice of ints that came in, read as a list.
-/
import Derived.Test.YtijoocoacaogoaaDoorWorks
import Derived.Test.YtijoocoacaogoaaDoorCards
import Derived.Test.YtijoocoacaogoaaDoorTie
import Derived.ProofKit
import Derived.OpenShut
import Derived.ChangeOld
import Derived.Deep.DeepHandedRow
import Derived.Lib.LaidTab
import Derived.SizedLaws
import Derived.Deep.SlicePairs
namespace Go.Proofs.YtijoocoacaogoaaDoor
open Go.ChangeShapes Go.WideShapes Go.ChangeAt Go.RowKit

theorem own : ownKnob Tryd.prog.godebug = none := by kernel_rfl
theorem laidOut : laidOutB Tryd.prog = true := by kernel_rfl
theorem gTab : Tryd.prog.globalNamed "math/bits.deBruijn64tab" = some 0 := by kernel_rfl
theorem gTabType : (Tryd.prog.globals[0]?).map (·.type) = some 61 := by kernel_rfl
theorem cells61 : Tryd.prog.cellsOf 61 = 64 := by kernel_rfl
theorem cells5 : Tryd.prog.cellsOf 5 = 1 := by kernel_rfl

def tabInts : List Int := Lib.deBruijn64tab.map fun (n : Nat) => (n : Int)

theorem tab_of {W : World} (h : laidMetH Tryd.prog [("math/bits.deBruijn64tab", Rows.laid_math_bits_deBruijn64tab)] W) : Tab W := by
  have hT : Lib.TabIs Tryd.prog W "math/bits.deBruijn64tab" .u8 tabInts :=
    Lib.tabIs_of_head (rest := []) gTab gTabType Tryd.underlying61 Tryd.underlying5 cells5 cells61 h
  intro j hj
  have := hT.cell gTab j (by simpa [tabInts, Lib.deBruijn64tab] using hj)
  rw [this]
  congr 2
  have hl : j < Lib.deBruijn64tab.length := hj
  simp [tabInts, hl]

/-- A slice of ints that came in, as the walks want it. -/
theorem ints_in {H : Type} {enc : TypeId × Value → H} {W : World} {a : Option Addr} {len cap : Nat} {d : DataW H} {p : List MemPlace}
    (h : DataW.Trod enc Tryd.prog W 0 (fun _ => true) true 43 (Value.slice a len cap) d p) :
    ∃ l : List Int, len = l.length ∧ IntsAt W a l ∧ I64s l ∧ len ≤ 9223372036854775807 ∧ (a = none → cap = 0) ∧ (len = 0 ∨ ∃ es sp, d = .slice es sp ∧ es.length = len) := by
  obtain ⟨fuel, hf⟩ := h
  rcases open_ints Tryd.underlying43 Tryd.underlying3 (by kernel_rfl) hf with ⟨hcs, _⟩ | ⟨x, l, c, zs, hcs, _, hl, hm, hz, hx, hcell, hwz⟩
  · simp [Value.cells] at hcs
    obtain ⟨rfl, rfl, rfl⟩ := hcs
    exact ⟨[], rfl, IntsAt.nil _ _, fun i hi => by simp at hi, by omega, fun _ => rfl, Or.inl rfl⟩
  · simp [Value.cells] at hcs
    obtain ⟨rfl, rfl, rfl⟩ := hcs
    have hz' : zs.length = cap := by simpa using hz
    have hlen : (zs.take len).length = len := by simp; omega
    refine ⟨zs.take len, hlen.symm, fun i hi => ?_, fun i hi => ?_, by unfold maxLen at hm; omega, (fun h => by cases h), Or.inr ⟨_, _, (Prod.mk.inj hx).1, by simp [lits]; omega⟩⟩
    · have hi' : i < zs.length := by omega
      obtain ⟨b, off, rfl, hc⟩ := ints_at hcell (by omega)
      refine ⟨b, off, rfl, ?_⟩
      have e : (zs.take len).getD i 0 = zs.getD i 0 := by
        simp only [List.getD_eq_getElem?_getD]
        rw [List.getElem?_take_of_lt (by omega)]
      rw [e]
      exact hc i hi'
    · have hi' : i < zs.length := by omega
      have := hwz (zs[i]) (List.getElem_mem hi')
      rw [List.getElem_take]
      exact bounds_i64 this

theorem bytes3 : Tryd.prog.bytesOf 3 = 8 := by kernel_rfl
/-- How long it may be, by the form's own reach. -/
theorem reach_in {H : Type} {ts : List TypeId} {ds : List (DataW H)} (h : (DataW.weightsEach Tryd.prog ts ds).all (· ≤ reachBytes) = true) (j : Nat) {d : DataW H} {len : Nat} (ht : ts[j]? = some 43) (hd : ds[j]? = some d)
    (hs : len = 0 ∨ ∃ es sp, d = .slice es sp ∧ es.length = len) : len * 8 ≤ 140737488351232 := by
  rcases hs with rfl | ⟨es, sp, rfl, rfl⟩
  · omega
  · have := sized_slice h ht hd Tryd.underlying43
    rw [bytes3] at this
    unfold reachBytes at this
    omega

def ActsAt (w : World) (a : Option Addr) (l : List (Int × Int)) : Prop :=
  ∀ i (h : i < l.length), ∃ b off, a = some ⟨b, off, none⟩ ∧ w.cell? ⟨b, off + i * 2, none⟩ = some (.int .i64 l[i].1) ∧ w.cell? ⟨b, off + i * 2 + 1, none⟩ = some (.int .i64 l[i].2)

theorem ActsAt.below {w w' : World} {a : Option Addr} {l : List (Int × Int)} (h : ActsAt w a l) (hb : Below w.heap.size w w') : ActsAt w' a l := by
  intro i hi
  obtain ⟨b, off, rfl, h1, h2⟩ := h i hi
  exact ⟨b, off, rfl, cell_later hb h1, cell_later hb h2⟩

theorem cells30 : Tryd.prog.cellsOf 30 = 2 := by kernel_rfl
theorem cells3 : Tryd.prog.cellsOf 3 = 1 := by kernel_rfl

def ActsFit (l : List (Int × Int)) : Prop := ∀ i (h : i < l.length), (-9223372036854775808 ≤ l[i].1 ∧ l[i].1 ≤ 9223372036854775807) ∧ (-9223372036854775808 ≤ l[i].2 ∧ l[i].2 ≤ 9223372036854775807)

theorem acts_in {H : Type} {enc : TypeId × Value → H} {W : World} {a : Option Addr} {len cap : Nat} {d : DataW H} {p : List MemPlace}
    (h : DataW.Trod enc Tryd.prog W 0 (fun _ => true) true 22 (Value.slice a len cap) d p) :
    ∃ l : List (Int × Int), len = l.length ∧ ActsAt W a l ∧ ActsFit l ∧ (a = none → cap = 0) ∧ (len = 0 ∨ ∃ es sp, d = .slice es sp ∧ es.length = len) := by
  obtain ⟨fuel, hf⟩ := h
  rcases Deep.open_slice_pairs Tryd.underlying22 Tryd.underlying30 cells30 rfl rfl cells3 cells3 hf with ⟨hcs, _⟩ | ⟨x, ln, cp, m, n, V0, V1, D0, D1, P0, P1, hcs, _, hl, hm, hmm, hx, hc⟩
  · simp [Value.cells] at hcs
    obtain ⟨rfl, rfl, rfl⟩ := hcs
    exact ⟨[], rfl, fun i hi => by simp at hi, fun i hi => by simp at hi, fun _ => rfl, Or.inl rfl⟩
  · simp [Value.cells] at hcs
    obtain ⟨rfl, rfl, rfl⟩ := hcs
    have hmm' : m = cap := by simpa using hmm
    subst hmm'
    have each : ∀ i, i < m → ∃ q : Int × Int, W.cell? (x.add (i * 2)) = some (.int .i64 q.1) ∧ W.cell? (x.add (i * 2 + 1)) = some (.int .i64 q.2) ∧ (-9223372036854775808 ≤ q.1 ∧ q.1 ≤ 9223372036854775807) ∧ (-9223372036854775808 ≤ q.2 ∧ q.2 ≤ 9223372036854775807) := by
      intro i hi
      obtain ⟨h1, h2, h3, h4⟩ := hc i hi
      obtain ⟨y, e1, -, y1⟩ := DataW.trod_int Tryd.underlying3 h3
      obtain ⟨z, e2, -, z1⟩ := DataW.trod_int Tryd.underlying3 h4
      simp at e1 e2
      rw [e1] at h1
      rw [e2] at h2
      exact ⟨(y, z), h1, h2, bounds_i64 y1, bounds_i64 z1⟩
    obtain ⟨f, hfn⟩ := Deep.choose_lt each
    refine ⟨(List.range len).map f, by simp, fun i hi => ?_, fun i hi => ?_, (fun h => by cases h), Or.inr ⟨_, _, (Prod.mk.inj hx).1, by simp⟩⟩
    · have hi' : i < len := by simpa using hi
      obtain ⟨h1, h2, -, -⟩ := hfn i (by omega)
      obtain ⟨b, off, spot⟩ := x
      have hsp : spot = none := by
        obtain ⟨h3, -⟩ := hfn 0 (by omega)
        simpa [Addr.add] using World.cell?_spot h3
      subst hsp
      rw [add_plain] at h1 h2
      exact ⟨b, off, rfl, by simpa using h1, by simpa [Nat.add_assoc] using h2⟩
    · have hi' : i < len := by simpa using hi
      obtain ⟨-, -, h1, h2⟩ := hfn i (by omega)
      simpa using ⟨h1, h2⟩

theorem bytes30 : Tryd.prog.bytesOf 30 = 16 := by kernel_rfl
theorem reach_acts {H : Type} {ts : List TypeId} {ds : List (DataW H)} (h : (DataW.weightsEach Tryd.prog ts ds).all (· ≤ reachBytes) = true) (j : Nat) {d : DataW H} {len : Nat} (ht : ts[j]? = some 22) (hd : ds[j]? = some d)
    (hs : len = 0 ∨ ∃ es sp, d = .slice es sp ∧ es.length = len) : len * 16 ≤ 140737488351232 := by
  rcases hs with rfl | ⟨es, sp, rfl, rfl⟩
  · omega
  · have := sized_slice h ht hd Tryd.underlying22
    rw [bytes30] at this
    unfold reachBytes at this
    omega


end Go.Proofs.YtijoocoacaogoaaDoor
