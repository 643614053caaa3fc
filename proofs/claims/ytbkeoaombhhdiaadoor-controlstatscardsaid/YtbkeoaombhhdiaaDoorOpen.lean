/-
  What the rows hand a walk: the tables as the row lists them, and slices of texts and of ints that came in, read as lists.
-/
import Derived.Test.YtbkeoaombhhdiaaDoorWorks
import Derived.Test.YtbkeoaombhhdiaaDoorCards
import Derived.Test.YtbkeoaombhhdiaaDoorTie
import Derived.ProofKit
import Derived.OpenShut
import Derived.ChangeOld
import Derived.ChangeArms
import Derived.Deep.DeepHandedRow
import Derived.Lib.LaidTab
import Derived.LaidSub
import Derived.SizedLaws
import Derived.Deep.Strs
namespace Go.Proofs.YtbkeoaombhhdiaaDoor
open Go.ChangeShapes Go.WideShapes Go.ChangeAt Go.RowKit

theorem own : ownKnob Tryd.prog.godebug = Option.none := by kernel_rfl
theorem laidOut : laidOutB Tryd.prog = true := by kernel_rfl
theorem gPowType : (Tryd.prog.globals[2]?).map (·.type) = some 82 := by kernel_rfl
theorem gFiles : Tryd.prog.globalNamed "millpond/control.files" = some 0 := by kernel_rfl
theorem gFilesType : (Tryd.prog.globals[0]?).map (·.type) = some 61 := by kernel_rfl
theorem cells82 : Tryd.prog.cellsOf 82 = 20 := by kernel_rfl
theorem cells73 : Tryd.prog.cellsOf 73 = 1 := by kernel_rfl
theorem cells61 : Tryd.prog.cellsOf 61 = 5 := by kernel_rfl
theorem cells9 : Tryd.prog.cellsOf 9 = 1 := by kernel_rfl
theorem cells3 : Tryd.prog.cellsOf 3 = 1 := by kernel_rfl
/-- What the rows list. -/
def listed : List (String × DataW Unit) := Rows.controlReadsRow.laid
theorem pow_of {W : World} (h : laidMetH Tryd.prog listed W) : Lib.TabIs Tryd.prog W "internal/strconv.uint64pow10" .u64 Lib.pow10Tab := by
  have h1 := h.filter (fun x => x.1 == "internal/strconv.uint64pow10")
  have e : listed.filter (fun x => x.1 == "internal/strconv.uint64pow10") = [("internal/strconv.uint64pow10", Lib.tabData .u64 Lib.pow10Tab)] := by kernel_rfl
  rw [e] at h1
  exact Lib.tabIs_of_head (rest := []) gPow gPowType Tryd.underlying82 Tryd.underlying73 cells73 cells82 h1
theorem files_of {W : World} (h : laidMetH Tryd.prog listed W) : ∀ (j : Nat) (T : Bs), tFiles[j]? = some T → W.cell? ⟨0, j, Option.none⟩ = some (.string ⟨T.toArray⟩) := by
  have h1 := h.filter (fun x => x.1 == "millpond/control.files")
  have e : listed.filter (fun x => x.1 == "millpond/control.files") = [("millpond/control.files", .agg (tFiles.map fun T => .lit (.string T)))] := by kernel_rfl
  rw [e] at h1
  have h2 : laidMet Tryd.prog [("millpond/control.files", .agg (tFiles.map fun T => .lit (.string T)))] W := h1
  obtain ⟨ps, ⟨g', t', cs, fuel, p, q, hg', ht', hvar, hd, _, _⟩, _⟩ := h2
  obtain rfl := Option.some.inj (gFiles.symm.trans hg')
  obtain rfl := Option.some.inj (gFilesType.symm.trans ht')
  obtain ⟨xs, m, -, hx, hl, hxl, hi⟩ := DataW.trod_array Tryd.underlying61 hd
  have hxs : tFiles.map (fun T => (DataW.lit (.string T) : DataW Unit)) = xs.map (·.1) := by
    have := congrArg Prod.fst hx
    simpa using this
  intro j T hT
  have hj : j < 5 := by
    have := (List.getElem?_eq_some_iff.1 hT).1
    exact this
  rw [World.var?_cell hg' hvar j]
  have hij := hi j hj
  rw [cells9, Nat.mul_one] at hij
  have hjx : j < xs.length := by omega
  rw [List.getElem?_eq_getElem hjx] at hij
  obtain ⟨s, hc, hv, -⟩ := DataW.trod_string Tryd.underlying9 hij
  have hT2 : (tFiles.map (fun T => (DataW.lit (.string T) : DataW Unit)))[j]? = some (.lit (.string T)) := by
    rw [List.getElem?_map, hT]
    rfl
  rw [hxs, List.getElem?_map, List.getElem?_eq_getElem hjx, hv] at hT2
  simp at hT2
  have h0 := congrArg (·[0]?) hc
  have h3 : (cs.toList)[j]? = some (Value.string s) := by simpa [List.getElem?_take, List.getElem?_drop] using h0
  have h4 : cs[j]? = some (Value.string s) := by simpa using h3
  rw [h4, ← hT2]
theorem tab_of {W : World} (h : laidMetH Tryd.prog listed W) : Tabs W := ⟨pow_of h, files_of h⟩

/-- A slice of texts that came in. -/
theorem strs_in {H : Type} {enc : TypeId × Value → H} {W : World} {a : Option Addr} {len cap : Nat} {d : DataW H} {p : List MemPlace}
    (h : DataW.Trod enc Tryd.prog W 0 (fun _ => true) true 28 (Value.slice a len cap) d p) :
    ∃ L : List ByteArray, len = L.length ∧ Strs W a L ∧ Short L ∧ L.length ≤ 9223372036854775807 ∧ (a = Option.none → cap = 0) := by
  obtain ⟨fuel, hf⟩ := h
  rcases Deep.open_strs Tryd.underlying28 Tryd.underlying9 cells9 hf with ⟨hcs, _⟩ | ⟨x, l, c, m, Sx, hcs, _, hl, hm, hmm, _, hc⟩
  · simp [Value.cells] at hcs
    obtain ⟨rfl, rfl, rfl⟩ := hcs
    exact ⟨[], rfl, Strs.nil _ _, (fun s hs => by cases hs), by decide, fun _ => rfl⟩
  · simp [Value.cells] at hcs
    obtain ⟨rfl, rfl, rfl⟩ := hcs
    have hm2 : m = cap := by simpa using hmm
    subst hm2
    unfold maxLen at hm
    refine ⟨(List.range len).map Sx, by simp, fun i hi => ?_, fun s hs => ?_, by simp; omega, fun h => by cases h⟩
    · have hi' : i < len := by simpa using hi
      obtain ⟨h1, -⟩ := hc i (by omega)
      obtain ⟨b, off, spot⟩ := x
      have hsp : spot = Option.none := by
        have h0 := (hc 0 (by omega)).1
        simpa [Addr.add] using World.cell?_spot h0
      subst hsp
      rw [add_plain] at h1
      exact ⟨b, off, rfl, by simpa using h1⟩
    · obtain ⟨i, hi, rfl⟩ := List.mem_map.1 hs
      exact (hc i (by have := List.mem_range.1 hi; omega)).2
/-- A slice of ints that came in. -/
theorem ints_in {H : Type} {enc : TypeId × Value → H} {W : World} {a : Option Addr} {len cap : Nat} {d : DataW H} {p : List MemPlace}
    (h : DataW.Trod enc Tryd.prog W 0 (fun _ => true) true 29 (Value.slice a len cap) d p) :
    ∃ L : List Int, len = L.length ∧ Ints W a L ∧ I64s L ∧ L.length ≤ 9223372036854775807 ∧ (a = Option.none → cap = 0) := by
  obtain ⟨fuel, hf⟩ := h
  rcases open_ints Tryd.underlying29 Tryd.underlying3 (by kernel_rfl) hf with ⟨hcs, _⟩ | ⟨x, l, c, zs, hcs, _, hl, hm, hz, hx, hcell, hwz⟩
  · simp [Value.cells] at hcs
    obtain ⟨rfl, rfl, rfl⟩ := hcs
    exact ⟨[], rfl, (fun i hi => by cases hi), (fun x hx => by cases hx), by decide, fun _ => rfl⟩
  · simp [Value.cells] at hcs
    obtain ⟨rfl, rfl, rfl⟩ := hcs
    have hz' : zs.length = cap := by simpa using hz
    have hlen : (zs.take len).length = len := by simp; omega
    unfold maxLen at hm
    refine ⟨zs.take len, hlen.symm, fun i hi => ?_, fun y hy => ?_, by omega, fun h => by cases h⟩
    · have hi' : i < zs.length := by omega
      obtain ⟨b, off, rfl, hc⟩ := ints_at hcell (by omega)
      refine ⟨b, off, rfl, ?_⟩
      have e : (zs.take len)[i] = zs.getD i 0 := by
        rw [List.getElem_take]
        simp [hi']
      rw [e]
      exact hc i hi'
    · have := hwz y (List.mem_of_mem_take hy)
      exact bounds_i64 this
/-- The tables of math/bits that the rows list. -/
def tab32 : List Int := [0, 1, 28, 2, 29, 14, 24, 3, 30, 22, 20, 15, 25, 17, 4, 8, 31, 27, 13, 23, 21, 19, 16, 7, 26, 12, 18, 6, 11, 5, 10, 9]
def tab64 : List Int := [0, 1, 56, 2, 57, 49, 28, 3, 61, 58, 42, 50, 38, 29, 17, 4, 62, 47, 59, 36, 45, 43, 51, 22, 53, 39, 33, 30, 24, 18, 12, 5, 63, 55, 48, 27, 60, 41, 37, 16, 46, 35, 44, 21, 52, 32, 23, 11, 54, 26, 40, 15, 34, 20, 31, 10, 25, 14, 19, 9, 13, 8, 7, 6]
/-- A byte, of the number that it is. -/
theorem byte_of {x : Int} (h1 : 0 ≤ x) (h2 : x ≤ 255) : ∃ b : UInt8, x = (b.toNat : Int) := by
  refine ⟨UInt8.ofNat x.toNat, ?_⟩
  simp only [UInt8.toNat_ofNat']
  omega
end Go.Proofs.YtbkeoaombhhdiaaDoor
