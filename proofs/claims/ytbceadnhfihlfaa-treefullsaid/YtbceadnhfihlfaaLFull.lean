/-
  The law TreeFull walked.
-/
import Derived.Test.YtbceadnhfihlfaaOwn
namespace Go.Proofs.Ytbceadnhfihlfaa
open Go.RowKit

theorem remG_len (G : Gr) (g : Int) : (remG G g).length = G.length := by
  unfold remG
  split <;> simp

theorem full_out (n off : Int) (w : World) (h : n < 0 ∨ 80 < n ∨ off < 1 ∨ 9 < off) :
    Calls Try.prog 7 #[.int .i64 n, .int .i64 off] w fun e w' => e = .returned (.bool true) ∧ Below w.heap.size w w' := by
  by_cases h1 : n < 0
  · have q1 : decide (n < 0) = true := by simp; omega
    clear h
    go_enter Try.func7, Try.ntmps7
    go_wp2_with (go_at_call 8; refine (works_any _).mono ?_; rintro e w1 ⟨rfl, hb⟩)
    go_ret
    exact ⟨rfl, hb⟩
  · have q1 : decide (n < 0) = false := by simp; omega
    by_cases h2 : 80 < n
    · have q2 : decide (80 < n) = true := by simp; omega
      clear h h1
      go_enter Try.func7, Try.ntmps7
      go_wp2_with (go_at_call 8; refine (works_any _).mono ?_; rintro e w1 ⟨rfl, hb⟩)
      go_ret
      exact ⟨rfl, hb⟩
    · have q2 : decide (80 < n) = false := by simp; omega
      by_cases h3 : off < 1
      · have q3 : decide (off < 1) = true := by simp; omega
        clear h h1 h2
        go_enter Try.func7, Try.ntmps7
        go_wp2_with (go_at_call 8; refine (works_any _).mono ?_; rintro e w1 ⟨rfl, hb⟩)
        go_ret
        exact ⟨rfl, hb⟩
      · have q3 : decide (off < 1) = false := by simp; omega
        have q4 : decide (9 < off) = true := by simp; omega
        clear h1 h2 h3
        go_enter Try.func7, Try.ntmps7
        go_wp2_with (go_at_call 8; refine (works_any _).mono ?_; rintro e w1 ⟨rfl, hb⟩)
        go_ret
        exact ⟨rfl, hb⟩

set_option maxRecDepth 100000 in
set_option maxHeartbeats 4000000 in
theorem full_in (n : Nat) (off : Int) (w : World) (hn : n ≤ 80) (ho1 : 1 ≤ off) (ho2 : off ≤ 9) :
    Calls Try.prog 7 #[.int .i64 (n : Int), .int .i64 off] w fun e w' => e = .returned (.bool true) ∧ Below w.heap.size w w' := by
  have q1 : decide ((n : Int) < 0) = false := by simp
  have q2 : decide (80 < (n : Int)) = false := by simp; omega
  have q3 : decide (off < 1) = false := by simp; omega
  have q4 : decide (9 < off) = false := by simp; omega
  go_enter Try.func7, Try.ntmps7
  go_wp2_with fail
  refine (works_any _).mono ?_
  rintro e w1 ⟨rfl, hb1⟩
  go_wp2_with fail
  refine (newT hb1).mono ?_
  rintro e w2 ⟨t, rfl, h2, -⟩
  clear hb1 q1 q2 q3 q4
  go_wp2
  go_loopw [7] (fun s7 wr => ∃ (j : Nat) (G : Gr), j ≤ n ∧ s7 = .int .i64 j ∧ G.length = min (j + 1) 64 ∧ Tr w wr t G) (fun s7 _ => n - (intOf s7).toNat)
  case atStart => exact ⟨0, newG, by omega, rfl, rfl, h2⟩
  case round =>
    clear h2
    obtain ⟨j, G, hj, rfl, hlen, hT⟩ := hrel
    by_cases hlt : j < n
    · have d0 : decide ((j : Int) < (n : Int)) = true := by simp; omega
      have hl0 := hT.ok.live
      have hd0 : dep G 0 < 7 := by rw [dep_root hT.ok]; omega
      have H13 : Hid (Calls Try.prog 13 #[.pointer (some ⟨t, 0, none⟩), .int .i64 0] wr fun e w' => e = .returned (.tuple #[.int .i64 (addN G 0), .int .i64 (addE G 0)]) ∧ Tr w w' t (addG G 0) ∧ Ty pt wr w') := addT 0 hT
      by_cases h63 : j < 63
      · obtain ⟨e1, e2, e3⟩ := addG_ok hl0 hd0 (by omega)
        have hlen1 : (addG G 0).length = j + 1 + 1 := by rw [e1]; simp; omega
        have hN : addN G 0 = (j : Int) + 1 := by rw [e2]; omega
        rw [hN, e3] at H13
        obtain ⟨G1, hG1⟩ : ∃ G1, G1 = addG G 0 := ⟨_, rfl⟩
        rw [← hG1] at H13 hlen1
        have d1 : decide ((j : Int) < 63) = true := by simp; omega
        have d2 : ((j : Int) + 1 != (j : Int) + 1) = false := by simp
        clear e1 e2 e3 hl0 hd0 hG1 hN hlen hT
        by_cases hm : (j : Int) % off = 0
        · have d3 : ((j : Int) % off == 0) = true := by simpa using hm
          clear hm
          go_wp2_with fail
          refine H13.out.mono ?_
          rintro e w3 ⟨rfl, hT', -⟩
          have H11 : Hid (Calls Try.prog 11 #[.pointer (some ⟨t, 0, none⟩), .int .i64 ((j : Int) + 1)] w3 fun e w' => e = .returned (.int .i64 (remE G1 (j + 1))) ∧ Tr w w' t (remG G1 (j + 1)) ∧ Ty pt w3 w') := remT _ hT'
          clear hT' H13
          go_wp2_with fail
          refine H11.out.mono ?_
          rintro e w4 ⟨rfl, hT', -⟩
          go_wp2_with fail
          exact ⟨⟨j + 1, _, by omega, by go_num, by rw [remG_len, hlen1]; omega, hT'⟩, by simp [intOf]; omega⟩
        · have d3 : ((j : Int) % off == 0) = false := by simpa using hm
          clear hm
          go_wp2_with fail
          refine H13.out.mono ?_
          rintro e w3 ⟨rfl, hT', -⟩
          clear H13
          go_wp2_with fail
          exact ⟨⟨j + 1, _, by omega, by go_num, by rw [hlen1]; omega, hT'⟩, by simp [intOf]; omega⟩
      · obtain ⟨e1, e2, e3⟩ := addG_full hl0 hd0 (by omega)
        rw [e1, e2, e3] at H13
        have d1 : decide ((j : Int) < 63) = false := by simp; omega
        clear e1 e2 e3 hl0 hd0 hT
        go_wp2_with fail
        refine H13.out.mono ?_
        rintro e w3 ⟨rfl, hT', -⟩
        clear H13
        go_wp2_with fail
        exact ⟨⟨j + 1, _, by omega, by go_num, by rw [hlen]; omega, hT'⟩, by simp [intOf]; omega⟩
    · obtain rfl : j = n := by omega
      have d0 : decide ((j : Int) < (j : Int)) = false := by simp
      have H15 : Hid (Calls Try.prog 15 #[.pointer (some ⟨t, 0, none⟩)] wr fun e w' => e = .returned (.int .i64 ((min (j + 1) 64 : Nat) : Int)) ∧ w' = wr) := by
        have := lenT hT
        rw [hlen] at this
        exact this
      have hb := hT.bel
      clear hT
      by_cases h63 : j + 1 < 64
      · rw [Nat.min_eq_left (by omega)] at H15
        have d1 : decide ((j : Int) + 1 < 64) = true := by simp; omega
        go_wp2_with fail
        refine H15.out.mono ?_
        rintro e w3 ⟨rfl, rfl⟩
        go_wp2_with fail
        go_ret
        exact ⟨rfl, hb⟩
      · rw [Nat.min_eq_right (by omega)] at H15
        by_cases h64 : j = 63
        · subst h64
          go_wp2_with fail
          refine H15.out.mono ?_
          rintro e w3 ⟨rfl, rfl⟩
          go_wp2_with fail
          go_ret
          exact ⟨rfl, hb⟩
        · have d1 : decide ((j : Int) + 1 < 64) = false := by simp; omega
          have d2 : decide (64 < (j : Int) + 1) = true := by simp; omega
          have d3 : 64 < (j : Int) + 1 := by omega
          go_wp2_with fail
          refine H15.out.mono ?_
          rintro e w3 ⟨rfl, rfl⟩
          go_wp2_with fail
          go_ret
          exact ⟨rfl, hb⟩

theorem full_walk (n off : Int) (w : World) : Calls Try.prog 7 #[.int .i64 n, .int .i64 off] w fun e w' => e = .returned (.bool true) ∧ Below w.heap.size w w' := by
  by_cases h : n < 0 ∨ 80 < n ∨ off < 1 ∨ 9 < off
  · exact full_out n off w h
  · obtain ⟨k, rfl⟩ := Int.eq_ofNat_of_zero_le (by omega : 0 ≤ n)
    exact full_in k off w (by omega) (by omega) (by omega)
end Go.Proofs.Ytbceadnhfihlfaa
