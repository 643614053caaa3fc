/-
  What a page has behind Write, Put and Move (no program is run here); noughts as a string.
-/
import Derived.Test.YtidjbkjbfblknaaOwn
namespace Go.Proofs.Ytidjbkjbfblknaa
open Go.RowKit

theorem splice_get (L T : List UInt8) (o q : Nat) (h : o + T.length ≤ L.length) : (splice L o T)[q]? = if q < o then L[q]? else if q < o + T.length then T[q - o]? else L[q]? := by
  unfold splice
  have h1 : (L.take o).length = o := by simp; omega
  by_cases a : q < o
  · rw [if_pos a, List.getElem?_append_left (by omega), List.getElem?_take, if_pos a]
  · rw [if_neg a, List.getElem?_append_right (by omega), h1]
    by_cases b : q < o + T.length
    · rw [if_pos b, List.getElem?_append_left (by omega)]
    · rw [if_neg b, List.getElem?_append_right (by omega), List.getElem?_drop]
      congr 1
      omega
theorem pg_same {n k : Nat} {L T : List UInt8} (hL : L.length = n * 16) (hk : k < n) (hT : T.length = 16) : pgOf (splice L (k * 16) T) k = T := by
  apply List.ext_getElem?
  intro q
  unfold pgOf
  rw [List.getElem?_take, List.getElem?_drop, splice_get _ _ _ _ (by omega)]
  by_cases h : q < 16
  · rw [if_pos h, if_neg (by omega), if_pos (by omega)]
    congr 1
    omega
  · rw [if_neg h, List.getElem?_eq_none (by omega)]
theorem pg_other {n k m : Nat} {L T : List UInt8} (hL : L.length = n * 16) (hk : k < n) (hT : T.length = 16) (hne : m ≠ k) : pgOf (splice L (k * 16) T) m = pgOf L m := by
  apply List.ext_getElem?
  intro q
  unfold pgOf
  rw [List.getElem?_take, List.getElem?_drop, List.getElem?_take, List.getElem?_drop, splice_get _ _ _ _ (by omega)]
  by_cases h : q < 16
  · rw [if_pos h, if_pos h]
    by_cases h1 : m * 16 + q < k * 16
    · rw [if_pos h1]
    · rw [if_neg h1, if_neg (by omega)]
  · rw [if_neg h, if_neg h]

theorem read_write_same {n : Nat} {L T : List UInt8} {i : Int} (hL : L.length = n * 16) (hi : hasP n i = true) (hT : T.length = 16) : readT n (writeL n L i T) i = ⟨T.toArray⟩ := by
  obtain ⟨k, rfl, hk⟩ := hasP_true hi
  rw [writeL_ok hi hT]
  unfold readT
  rw [if_pos hi, Int.toNat_natCast, pg_same hL hk hT]
theorem read_write_other {n : Nat} {L T : List UInt8} {i o : Int} (hL : L.length = n * 16) (hi : hasP n i = true) (hT : T.length = 16) (hne : o ≠ i) : readT n (writeL n L i T) o = readT n L o := by
  obtain ⟨k, rfl, hk⟩ := hasP_true hi
  rw [writeL_ok hi hT]
  unfold readT
  cases ho : hasP n o with
  | false => rfl
  | true =>
    obtain ⟨m, rfl, hm⟩ := hasP_true ho
    simp only [if_true, Int.toNat_natCast]
    rw [pg_other hL hk hT (by omega)]

theorem read_ok {n : Nat} {L : List UInt8} {i : Int} (hi : hasP n i = true) : readT n L i = ⟨(pgOf L i.toNat).toArray⟩ := by unfold readT; rw [if_pos hi]
theorem pg_len {n : Nat} {L : List UInt8} {i : Int} (hL : L.length = n * 16) (hi : hasP n i = true) : (pgOf L i.toNat).length = 16 := by
  obtain ⟨k, rfl, hk⟩ := hasP_true hi
  rw [Int.toNat_natCast]
  exact pgOf_len hL hk
theorem read_move_to {n : Nat} {L : List UInt8} {i j : Int} (hL : L.length = n * 16) (hi : hasP n i = true) (hj : hasP n j = true) : readT n (moveL n L i j) j = readT n L i := by
  by_cases h : i = j
  · subst h; rw [moveL_same]
  · rw [moveL_ok hi hj h, read_write_other (writeL_len hL) hi noughts_len (fun e => h e.symm), read_write_same hL hj (pg_len hL hi), read_ok hi]
theorem read_move_from {n : Nat} {L : List UInt8} {i j : Int} (hL : L.length = n * 16) (hi : hasP n i = true) (hj : hasP n j = true) (h : i ≠ j) : readT n (moveL n L i j) i = ⟨noughts.toArray⟩ := by
  rw [moveL_ok hi hj h, read_write_same (writeL_len hL) hi noughts_len]
theorem read_move_other {n : Nat} {L : List UInt8} {i j o : Int} (hL : L.length = n * 16) (hi : hasP n i = true) (hj : hasP n j = true) (h1 : o ≠ i) (h2 : o ≠ j) : readT n (moveL n L i j) o = readT n L o := by
  by_cases h : i = j
  · subst h; rw [moveL_same]
  · rw [moveL_ok hi hj h, read_write_other (writeL_len hL) hi noughts_len h1, read_write_other hL hj (pg_len hL hi) h2]
theorem read_move_no {n : Nat} {L : List UInt8} {i j : Int} (h : (hasP n i && hasP n j) = false) : moveL n L i j = L ∧ moveE n i j = 1 := by
  simp [moveL, moveE, h]

theorem info5z : (Try.prog.info? 5).map (fun i => (i.zero, i.size, i.bytes)) = some (some (.int .u8 0), 1, 1) := by kernel_rfl
theorem nought_conv {w : World} {b : Nat} (h : RowAt w b 5 (List.replicate 16 (.int .u8 0))) : (convert 41 9 (.slice (some ⟨b, 0, none⟩) 16 16)).run Try.prog w = .ok (.string ⟨noughts.toArray⟩) w := by
  have := run_convert_bytes_back (P := Try.prog) w 41 9 5 ⟨b, 0, none⟩ 16 noughts Try.underlying41 Try.underlying5 Try.underlying9 (fun j hj => by
    rw [Addr.add_mid, Nat.zero_add, h.cell, bc_replicate]
    exact bc_get noughts j hj)
  rw [noughts_len] at this
  exact this
end Go.Proofs.Ytidjbkjbfblknaa
