/-
  The law BytesLast, walked: for every input it answers true.
-/
import Derived.Test.YtidjbkjbfblknaaPage
namespace Go.Proofs.Ytidjbkjbfblknaa
open Go.RowKit

theorem pg_set {n k j : Nat} {L : List UInt8} {b : UInt8} (hL : L.length = n * 16) (hk : k < n) (hj : j < 16) : pgOf (L.set (k * 16 + j) b) k = (pgOf L k).set j b := by
  apply List.ext_getElem?
  intro q
  have hl : (pgOf L k).length = 16 := pgOf_len hL hk
  rw [List.getElem?_set, hl]
  unfold pgOf
  rw [List.getElem?_take, List.getElem?_drop, List.getElem?_set, List.getElem?_take, List.getElem?_drop]
  by_cases h : q < 16
  · rw [if_pos h, if_pos h]
    by_cases h1 : j = q
    · subst h1
      rw [if_pos rfl, if_pos (by omega), if_pos rfl, if_pos h]
    · rw [if_neg (by omega), if_neg h1]
  · rw [if_neg h, if_neg h, if_neg (by omega)]
theorem read_put {n k j : Nat} {L : List UInt8} {b : UInt8} (hL : L.length = n * 16) (hk : k < n) (hj : j < 16) : readT n (putL n L k j b) k = ⟨((pgOf L k).set j b).toArray⟩ := by
  have h1 : hasP n (k : Int) = true := by rw [hasP_nat]; simpa using hk
  have h2 : hasP 16 (j : Int) = true := by rw [hasP_nat]; simpa using hj
  rw [read_ok h1]
  unfold putL
  rw [h1, h2]
  simp only [Bool.and_self, if_true, Int.toNat_natCast]
  rw [pg_set hL hk hj]
theorem cut_head (T : List UInt8) (j : Nat) (b : UInt8) : (⟨(T.set j b).toArray⟩ : ByteArray).extract 0 j = (⟨T.toArray⟩ : ByteArray).extract 0 j := by
  apply ByteArray.ext
  simp [ByteArray.data_extract, List.take_set_of_le]
theorem cut_tail (T : List UInt8) (j m : Nat) (b : UInt8) : (⟨(T.set j b).toArray⟩ : ByteArray).extract (j + 1) m = (⟨T.toArray⟩ : ByteArray).extract (j + 1) m := by
  apply ByteArray.ext
  simp [ByteArray.data_extract, List.drop_set]

set_option maxRecDepth 100000 in
set_option maxHeartbeats 8000000 in
theorem last_out (x0 : Int) (a : Option Addr) (cap m : Nat) (x2 : Int) (T : List UInt8) (x4 x5 : Int) (b : UInt8) (w : World) (h : x0 < 1 ∨ 100 < x0 ∨ 80 < m ∨ x2 < 0 ∨ x0 ≤ x2 ∨ x4 < 0 ∨ x0 ≤ x4 ∨ T.length ≠ 16 ∨ x5 < 0 ∨ 15 < x5) :
    Calls Try.prog 4 #[.int .i64 x0, .slice a m cap, .int .i64 x2, .string ⟨T.toArray⟩, .int .i64 x4, .int .i64 x5, bv b] w fun e w' => e = .returned (.bool true) ∧ Below w.heap.size w w' := by
  have hsz := text_size T
  obtain ⟨t, ht⟩ : ∃ t : ByteArray, t = ⟨T.toArray⟩ := ⟨_, rfl⟩
  rw [← ht] at hsz ⊢
  clear ht
  obtain ⟨q, hq⟩ : ∃ q, q = T.length := ⟨_, rfl⟩
  rw [← hq] at h hsz
  clear hq
  unfold bv
  by_cases c0 : x0 < 1
  · clear h
    go_enter Try.func4, Try.ntmps4
    go_wp2_with (go_at_call 7; refine (works_any _).mono ?_; rintro e w1 ⟨rfl, hb⟩)
    go_ret
    exact ⟨rfl, hb⟩
  · by_cases c1 : 100 < x0
    · clear h
      go_enter Try.func4, Try.ntmps4
      go_wp2_with (go_at_call 7; refine (works_any _).mono ?_; rintro e w1 ⟨rfl, hb⟩)
      go_ret
      exact ⟨rfl, hb⟩
    · by_cases c2 : 80 < m
      · clear h
        go_enter Try.func4, Try.ntmps4
        go_wp2_with (go_at_call 7; refine (works_any _).mono ?_; rintro e w1 ⟨rfl, hb⟩)
        go_ret
        exact ⟨rfl, hb⟩
      · by_cases c3 : x2 < 0
        · clear h
          go_enter Try.func4, Try.ntmps4
          go_wp2_with (go_at_call 7; refine (works_any _).mono ?_; rintro e w1 ⟨rfl, hb⟩)
          go_ret
          exact ⟨rfl, hb⟩
        · by_cases c4 : x0 ≤ x2
          · clear h
            go_enter Try.func4, Try.ntmps4
            go_wp2_with (go_at_call 7; refine (works_any _).mono ?_; rintro e w1 ⟨rfl, hb⟩)
            go_ret
            exact ⟨rfl, hb⟩
          · by_cases c5 : x4 < 0
            · clear h
              go_enter Try.func4, Try.ntmps4
              go_wp2_with (go_at_call 7; refine (works_any _).mono ?_; rintro e w1 ⟨rfl, hb⟩)
              go_ret
              exact ⟨rfl, hb⟩
            · by_cases c6 : x0 ≤ x4
              · clear h
                go_enter Try.func4, Try.ntmps4
                go_wp2_with (go_at_call 7; refine (works_any _).mono ?_; rintro e w1 ⟨rfl, hb⟩)
                go_ret
                exact ⟨rfl, hb⟩
              · by_cases c7 : q ≠ 16
                · clear h
                  go_enter Try.func4, Try.ntmps4
                  go_wp2_with (go_at_call 7; refine (works_any _).mono ?_; rintro e w1 ⟨rfl, hb⟩)
                  go_ret
                  exact ⟨rfl, hb⟩
                · by_cases c8 : x5 < 0
                  · clear h
                    go_enter Try.func4, Try.ntmps4
                    go_wp2_with (go_at_call 7; refine (works_any _).mono ?_; rintro e w1 ⟨rfl, hb⟩)
                    go_ret
                    exact ⟨rfl, hb⟩
                  · have c9 : 15 < x5 := by omega
                    clear h
                    go_enter Try.func4, Try.ntmps4
                    go_wp2_with (go_at_call 7; refine (works_any _).mono ?_; rintro e w1 ⟨rfl, hb⟩)
                    go_ret
                    exact ⟨rfl, hb⟩
end Go.Proofs.Ytidjbkjbfblknaa
