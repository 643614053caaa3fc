/-
  The law PoolLevels, walked: for every input it answers true.
-/
import Derived.Test.YtijoocoacaogoaaDoorOpen
namespace Go.Proofs.YtijoocoacaogoaaDoor
open Go.RowKit

theorem take_seq (n i : Nat) (h : i < n) : runOf (fill (List.replicate n false) 0 i) 1 = ((i : Int), 0, fill (List.replicate n false) 0 (i + 1)) := by
  have e : fill (List.replicate n false) 0 (i + 1) = (fill (List.replicate n false) 0 i).set i true := by
    show (fill (List.replicate n false) 0 i).set (0 + i) true = _
    rw [Nat.zero_add]
  rw [e]
  have hg : ∀ t, (List.replicate n false).getD t false = false := fun t => by
    simp only [List.getD_eq_getElem?_getD, List.getElem?_replicate]; split <;> rfl
  refine take_at (by rw [fill_len]; simpa using h) ?_ ?_
  · rw [fill_get _ _ _ _ (by simp; omega), if_neg (by omega), hg]
  · intro t ht
    rw [fill_get _ _ _ _ (by simp; omega), if_pos (by omega)]
theorem rep_get (n t : Nat) : (List.replicate n false).getD t false = false := by
  simp only [List.getD_eq_getElem?_getD, List.getElem?_replicate]; split <;> rfl
theorem seq_free (n i : Nat) (h : i ≤ n) : (fill (List.replicate n false) 0 i).count false = n - i := by
  have h1 := cnt_false (fill (List.replicate n false) 0 i)
  have h2 := fill_count (List.replicate n false) 0 i (by simpa using h) (fun k _ _ => rep_get n k)
  have h3 : (List.replicate n false).count true = 0 := by rw [List.count_replicate]; rfl
  rw [fill_len, List.length_replicate] at h1
  omega

theorem levels_out (x0 x1 x2 x3 : Int) (w : World) (hT : Tab w) (h : x0 < 0 ∨ 200 < x0 ∨ x1 < 0 ∨ x0 ≤ x1) :
    Calls Tryd.prog 7 #[.int .i64 x0, .int .i64 x1, .int .i64 x2, .int .i64 x3] w fun e w' => e = .returned (.bool true) ∧ Below w.heap.size w w' := by
  by_cases h1 : x0 < 0
  · clear h
    go_enter Tryd.func7, Tryd.ntmps7
    go_wp2_with (go_at_call 9; refine (works_any _ hT).mono ?_; rintro e w1 ⟨rfl, hb⟩)
    go_ret
    exact ⟨rfl, hb⟩
  · by_cases h2 : 200 < x0
    · clear h
      go_enter Tryd.func7, Tryd.ntmps7
      go_wp2_with (go_at_call 9; refine (works_any _ hT).mono ?_; rintro e w1 ⟨rfl, hb⟩)
      go_ret
      exact ⟨rfl, hb⟩
    · by_cases h3 : x1 < 0
      · clear h
        go_enter Tryd.func7, Tryd.ntmps7
        go_wp2_with (go_at_call 9; refine (works_any _ hT).mono ?_; rintro e w1 ⟨rfl, hb⟩)
        go_ret
        exact ⟨rfl, hb⟩
      · have h4 : x0 ≤ x1 := by omega
        clear h
        go_enter Tryd.func7, Tryd.ntmps7
        go_wp2_with (go_at_call 9; refine (works_any _ hT).mono ?_; rintro e w1 ⟨rfl, hb⟩)
        go_ret
        exact ⟨rfl, hb⟩

set_option maxHeartbeats 2000000 in
theorem levels_in (n k : Nat) (x2 x3 : Int) (w : World) (hT : Tab w) (hn : n ≤ 200) (hk : k < n) :
    Calls Tryd.prog 7 #[.int .i64 n, .int .i64 k, .int .i64 x2, .int .i64 x3] w fun e w' => e = .returned (.bool true) ∧ Below w.heap.size w w' := by
  obtain ⟨A, hA⟩ : ∃ A, A = levelOf (n - k) x2 x3 := ⟨_, rfl⟩
  obtain ⟨L, hL⟩ : ∃ L, L = levelOf (n - (k + 1)) x2 x3 := ⟨_, rfl⟩
  have hAL : L ≤ A ∧ 0 ≤ A ∧ A ≤ 2 ∧ 0 ≤ L ∧ ((A = 0) ↔ ((n : Int) - (k : Int) < x2)) := by
    rw [hA, hL]; unfold levelOf
    split <;> split <;> (try split) <;> (try split) <;> omega
  have HA : Hid (A = levelOf (n - k) x2 x3) := hA
  have HL : Hid (L = levelOf (n - (k + 1)) x2 x3) := hL
  obtain ⟨a1, a2, a3, a4, a5⟩ := hAL
  have hfin : ((A == 0) == decide ((n : Int) - (k : Int) < x2)) = true := by
    by_cases c : (n : Int) - (k : Int) < x2
    · rw [decide_eq_true c, a5.2 c]; rfl
    · rw [decide_eq_false c]
      have : A ≠ 0 := fun e => c (a5.1 e)
      simp [this]
  clear hA hL a5
  have hd1 : decide ((n : Int) ≤ (k : Int)) = false := by simp; omega
  have hd2 : decide ((200 : Int) < (n : Int)) = false := by simp; omega
  have hd3 : decide ((n : Int) < 0) = false := by simp
  have hd4 : decide ((k : Int) < 0) = false := by simp
  go_enter Tryd.func7, Tryd.ntmps7
  go_wp2_with fail
  refine (works_any _ hT).mono ?_
  rintro e w1 ⟨rfl, hb⟩
  have hT1 := hT.below hb hT.pos
  go_wp2_with fail
  refine (newL n n w w1 hT1 hb hT.pos (Or.inr (Or.inl ⟨rfl, by omega⟩))).mono ?_
  rintro e w2 ⟨bp, bm, bw, rfl, hp⟩
  clear hT1 hb hT
  go_wp2
  go_loopw [11] (fun i wr => ∃ j : Nat, j ≤ k ∧ i = .int .i64 j ∧ Pl w.heap.size w wr bp bm bw (fill (List.replicate n false) 0 j)) (fun i _ => k - (intOf i).toNat)
  case atStart => exact ⟨0, by omega, rfl, hp⟩
  case round =>
    clear hp
    obtain ⟨j, hj, rfl, hp⟩ := hrel
    by_cases hlt : j < k
    · have HS : Hid (runOf (fill (List.replicate n false) 0 j) 1 = ((j : Int), 0, fill (List.replicate n false) 0 (j + 1))) := take_seq n j (by omega)
      go_wp2_with fail
      refine (takeL hp).mono ?_
      rintro e w3 ⟨rfl, h3⟩
      rw [HS.out] at h3
      clear hp HS
      go_wp2_with fail
      go_roundw
      case rel => exact ⟨j + 1, by omega, by go_num, h3⟩
      case measure => simp [intOf]; omega
    · obtain rfl : j = k := by omega
      have HS : Hid (runOf (fill (List.replicate n false) 0 j) 1 = ((j : Int), 0, fill (List.replicate n false) 0 (j + 1))) := take_seq n j (by omega)
      go_wp2_with fail
      refine (levelL _ _ hp).mono ?_
      rintro e w3 ⟨rfl, h3⟩
      rw [seq_free n j (by omega), ← HA.out]
      clear hp HA
      go_wp2_with fail
      refine (takeL h3).mono ?_
      rintro e w4 ⟨rfl, h4⟩
      rw [HS.out] at h4
      clear h3 HS
      go_wp2_with fail
      refine (levelL _ _ h4).mono ?_
      rintro e w5 ⟨rfl, h5⟩
      rw [seq_free n (j + 1) (by omega), ← HL.out]
      clear h4 HL
      have HB : Hid (Below w.heap.size w w5) := h5.bel
      clear h5
      go_wp2_with fail
      go_ret
      exact ⟨rfl, HB.out⟩

theorem levels_walk (x0 x1 x2 x3 : Int) (w : World) (hT : Tab w) (_ : -9223372036854775808 ≤ x0 ∧ x0 ≤ 9223372036854775807) (_ : -9223372036854775808 ≤ x1 ∧ x1 ≤ 9223372036854775807) (_ : -9223372036854775808 ≤ x2 ∧ x2 ≤ 9223372036854775807) (_ : -9223372036854775808 ≤ x3 ∧ x3 ≤ 9223372036854775807) :
    Calls Tryd.prog 7 #[.int .i64 x0, .int .i64 x1, .int .i64 x2, .int .i64 x3] w fun e w' => e = .returned (.bool true) ∧ Below w.heap.size w w' := by
  by_cases h : x0 < 0 ∨ 200 < x0 ∨ x1 < 0 ∨ x0 ≤ x1
  · exact levels_out x0 x1 x2 x3 w hT h
  · obtain ⟨n, rfl⟩ := Int.eq_ofNat_of_zero_le (show 0 ≤ x0 by omega)
    obtain ⟨k, rfl⟩ := Int.eq_ofNat_of_zero_le (show 0 ≤ x1 by omega)
    exact levels_in n k x2 x3 w hT (by omega) (by omega)

end Go.Proofs.YtijoocoacaogoaaDoor
