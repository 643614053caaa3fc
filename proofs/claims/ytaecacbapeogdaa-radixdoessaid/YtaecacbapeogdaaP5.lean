/-
  A node compared with the empty one; contracts of drop and Drop.
-/
import Derived.Test.YtaecacbapeogdaaP4
import Derived.Laws.Pointers
namespace Go.Proofs.Ytaecacbapeogdaa
open Go.RowKit

/-! ### an empty node -/
theorem fields49 : Try.prog.fieldsOf 49 = #[{ name := "below", type := 47, offset := 0, embedded := false, tag := "", pkgPath := "millpond/radix", byteOffset := 0 }, { name := "word", type := 30, offset := 1, embedded := false, tag := "", pkgPath := "millpond/radix", byteOffset := 8 }, { name := "has", type := 4, offset := 2, embedded := false, tag := "", pkgPath := "millpond/radix", byteOffset := 16 }] := by kernel_rfl
theorem under49 : Try.prog.underlying 49 = some (.struct (Try.prog.fieldsOf 49)) := by kernel_rfl
theorem stood49 : Try.prog.stoodInHeld 49 = false := by kernel_rfl
theorem under47 : Try.prog.underlying 47 = some (.pointer (Try.prog.pointee 47)) := by kernel_rfl
theorem plain30 : Try.prog.plainKey 30 = true := by kernel_rfl
theorem plain4 : Try.prog.plainKey 4 = true := by kernel_rfl
theorem cells49 : Try.prog.cellsOf 49 = 3 := by kernel_rfl
theorem info49 : ∃ i, Try.prog.info? 49 = some i ∧ i.size = 3 := ⟨_, rfl, rfl⟩
theorem guard51 : Try.prog.eqGuardType Try.prog.depth 51 = false := by kernel_rfl
theorem size51 : (Try.prog.info? 51).map (·.size) = some 48 := by kernel_rfl
theorem run_part_ptr {P : Program} (w : World) {e : TypeId} (he : P.underlying e = some (.pointer (P.pointee e))) {xs : Array Value} {off : Nat} {v : Value} (hx : xs[off]? = some v) : (part e xs off).run P w = .ok v w := by
  simp [part, isAgg, run_underlying he, hx]
theorem run_part_49 (w : World) (xs : Array Value) (off : Nat) : (part 49 xs off).run Try.prog w = .ok (.agg (xs.extract off (off + 3))) w := by
  obtain ⟨i, hi, hs⟩ := info49
  simp [part, isAgg, run_underlying Try.underlying49, sizeOf, typeInfo, hi, hs]
theorem eq49 (d : Nat) (o : Option Nat) (x : Option Int) (w : World) : (Op.equalIn (d + 2) 49 (.agg (place o x).toArray) (.agg #[.pointer none, .int .u64 0, .bool false])).run Try.prog w = .ok (o.isNone && x.isNone) w := by
  have p0 := run_part_ptr (P := Try.prog) w under47 (xs := (place o x).toArray) (off := 0) (v := ptr o) rfl
  have p1 := run_part_plain (P := Try.prog) w plain30 (xs := (place o x).toArray) (off := 1) (v := .int .u64 (x.getD 0)) rfl
  have p2 := run_part_plain (P := Try.prog) w plain4 (xs := (place o x).toArray) (off := 2) (v := .bool x.isSome) rfl
  have q0 := run_part_ptr (P := Try.prog) w under47 (xs := #[.pointer none, .int .u64 0, .bool false]) (off := 0) (v := .pointer none) rfl
  have q1 := run_part_plain (P := Try.prog) w plain30 (xs := #[.pointer none, .int .u64 0, .bool false]) (off := 1) (v := .int .u64 0) rfl
  have q2 := run_part_plain (P := Try.prog) w plain4 (xs := #[.pointer none, .int .u64 0, .bool false]) (off := 2) (v := .bool false) rfl
  have r0 : (Op.equalIn (d + 1) 47 (ptr o) (.pointer none)).run Try.prog w = .ok o.isNone w := by
    unfold ptr
    rw [run_equalIn_pointer_nil (P := Try.prog) w d 47 _ under47]
    cases o <;> rfl
  have r1 : (Op.equalIn (d + 1) 30 (.int .u64 (x.getD 0)) (.int .u64 0)).run Try.prog w = .ok (x.getD 0 == 0) w := run_equalIn_int (P := Try.prog) w d 30 .u64 .u64 _ _ Try.underlying30
  have r2 : (Op.equalIn (d + 1) 4 (.bool x.isSome) (.bool false)).run Try.prog w = .ok (x.isSome == false) w := run_equalIn_bool (P := Try.prog) w d 4 _ _ Try.underlying4
  rw [run_equalIn_agg (P := Try.prog) w (d + 1) 49 _ _ under49 stood49, fields49]
  cases o with
  | some b => simp [Op.eqFields, p0, q0, r0]
  | none =>
    cases x with
    | none => simp at p0 p1 p2 r0 r1 r2; simp [Op.eqFields, p0, p1, p2, q0, q1, q2, r0, r1, r2]
    | some y =>
      simp only [Option.getD_some, Option.isSome_some] at p1 p2 r1 r2
      cases hy : (y == 0) <;> rw [hy] at r1 <;> simp [Op.eqFields, p0, p1, p2, q0, q1, q2, r0, r1, r2]
theorem extract3 {l : List Value} {off : Nat} {a b c : Value} (h0 : l[off]? = some a) (h1 : l[off + 1]? = some b) (h2 : l[off + 2]? = some c) : l.toArray.extract off (off + 3) = #[a, b, c] := by
  apply Array.ext_getElem?
  intro j
  rw [Array.getElem?_extract]
  have hl : off + 2 < l.length := (List.getElem?_eq_some_iff.1 h2).1
  by_cases hj : j < 3
  · rw [if_pos (by simp; omega)]
    have : j = 0 ∨ j = 1 ∨ j = 2 := by omega
    rcases this with rfl | rfl | rfl
    · simpa using h0
    · simpa using h1
    · simpa using h2
  · rw [if_neg (by simp; omega)]
    rw [Array.getElem?_eq_none (by simp; omega)]
def emptyA : Array Value := #[.pointer none, .int .u64 0, .bool false, .pointer none, .int .u64 0, .bool false, .pointer none, .int .u64 0, .bool false, .pointer none, .int .u64 0, .bool false, .pointer none, .int .u64 0, .bool false, .pointer none, .int .u64 0, .bool false, .pointer none, .int .u64 0, .bool false, .pointer none, .int .u64 0, .bool false, .pointer none, .int .u64 0, .bool false, .pointer none, .int .u64 0, .bool false, .pointer none, .int .u64 0, .bool false, .pointer none, .int .u64 0, .bool false, .pointer none, .int .u64 0, .bool false, .pointer none, .int .u64 0, .bool false, .pointer none, .int .u64 0, .bool false, .pointer none, .int .u64 0, .bool false]
theorem emptyA_list : emptyA.toList = emptyRow := rfl
def noneB (o : Nat → Option Nat) (x : Nat → Option Int) (is : List Nat) : Bool := is.all fun i => (o i).isNone && (x i).isNone
theorem run_items49 (w : World) (d : Nat) (o : Nat → Option Nat) (x : Nat → Option Int) : ∀ (is : List Nat), (∀ i ∈ is, i < 16) →
    (Op.eqItems (d + 2) 49 3 (nodeRow o x).toArray emptyRow.toArray is).run Try.prog w = .ok (noneB o x is) w
  | [], _ => by simp [Op.eqItems, noneB]
  | i :: is, h => by
    have hi := h i (by simp)
    have p1 := run_part_49 w (nodeRow o x).toArray (i * 3)
    rw [extract3 (off := i * 3) (nodeRow_get hi (j := 0) (by omega)) (nodeRow_get hi (j := 1) (by omega)) (nodeRow_get hi (j := 2) (by omega))] at p1
    have p2 := run_part_49 w emptyRow.toArray (i * 3)
    unfold emptyRow at p2
    rw [extract3 (off := i * 3) (nodeRow_get hi (j := 0) (by omega)) (nodeRow_get hi (j := 1) (by omega)) (nodeRow_get hi (j := 2) (by omega))] at p2
    have p3 := eq49 d (o i) (x i) w
    have ih := run_items49 w d o x is (fun j hj => h j (by simp [hj]))
    have e2 : (#[ptr none, .int .u64 ((none : Option Int).getD 0), .bool (none : Option Int).isSome] : Array Value) = #[.pointer none, .int .u64 0, .bool false] := rfl
    rw [e2] at p2
    have p1' : (part 49 (nodeRow o x).toArray (i * 3)).run Try.prog w = .ok (.agg (place (o i) (x i)).toArray) w := p1
    have p2' : (part 49 emptyRow.toArray (i * 3)).run Try.prog w = .ok (.agg #[.pointer none, .int .u64 0, .bool false]) w := p2
    simp only [Op.eqItems, Sem.run_bind, p1', p2', p3, Result.andThen_ok, noneB, List.all_cons]
    cases hq : ((o i).isNone && (x i).isNone)
    · simp
    · simpa [noneB] using ih
theorem eq51 (w : World) (o : Nat → Option Nat) (x : Nat → Option Int) :
    (Op.equalIn 10000 51 (.agg (nodeRow o x).toArray) (.agg #[.pointer none, .int .u64 0, .bool false, .pointer none, .int .u64 0, .bool false, .pointer none, .int .u64 0, .bool false, .pointer none, .int .u64 0, .bool false, .pointer none, .int .u64 0, .bool false, .pointer none, .int .u64 0, .bool false, .pointer none, .int .u64 0, .bool false, .pointer none, .int .u64 0, .bool false, .pointer none, .int .u64 0, .bool false, .pointer none, .int .u64 0, .bool false, .pointer none, .int .u64 0, .bool false, .pointer none, .int .u64 0, .bool false, .pointer none, .int .u64 0, .bool false, .pointer none, .int .u64 0, .bool false, .pointer none, .int .u64 0, .bool false, .pointer none, .int .u64 0, .bool false])).run Try.prog w = .ok (noneB o x (List.range 16)) w := by
  obtain ⟨i, hi, -⟩ := info49
  have := run_equalIn_array (P := Try.prog) w 9999 (t := 51) (e := 49) (n := 16) (nodeRow o x).toArray emptyRow.toArray Try.underlying51 hi
  rw [cells49, run_items49 w 9997 o x (List.range 16) (fun i hi => by simpa using hi)] at this
  exact this
theorem noneB_true {o : Nat → Option Nat} {x : Nat → Option Int} (h : noneB o x (List.range 16) = true) (i : Nat) (hi : i < 16) : o i = none ∧ x i = none := by
  simp only [noneB, List.all_eq_true, List.mem_range, Bool.and_eq_true, Option.isNone_iff_eq_none] at h
  exact h i hi
theorem noneB_false {o : Nat → Option Nat} {x : Nat → Option Int} (h : noneB o x (List.range 16) = false) : ∃ i, i < 16 ∧ (o i ≠ none ∨ x i ≠ none) := by
  simp only [noneB, List.all_eq_false, List.mem_range] at h
  obtain ⟨i, hi, h1⟩ := h
  refine ⟨i, hi, ?_⟩
  cases ho : o i with
  | some b => simp
  | none =>
    cases hx : x i with
    | some b => simp
    | none => rw [ho, hx] at h1; simp at h1
end Go.Proofs.Ytaecacbapeogdaa
