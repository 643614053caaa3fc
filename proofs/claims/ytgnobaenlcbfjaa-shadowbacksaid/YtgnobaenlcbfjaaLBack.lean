/-
  The law ShadowBack walked.
-/
import Derived.Test.YtgnobaenlcbfjaaLMakes
namespace Go.Proofs.Ytgnobaenlcbfjaa
open Go.RowKit Go.ChangeShapes Go.WideShapes Go.ChangeAt

set_option maxRecDepth 100000 in
set_option maxHeartbeats 8000000 in
theorem back_out (g c n : Int) (x : Nat) (w : World)
    (h : decide (g < 0) = true ∨ (decide (g < 0) = false ∧ decide (255 < g) = true) ∨ (decide (g < 0) = false ∧ decide (255 < g) = false ∧ decide (c < 0) = true) ∨
      (decide (g < 0) = false ∧ decide (255 < g) = false ∧ decide (c < 0) = false ∧ decide (1099511627776 ≤ c) = true) ∨
      (decide (g < 0) = false ∧ decide (255 < g) = false ∧ decide (c < 0) = false ∧ decide (1099511627776 ≤ c) = false ∧ decide (n < 0) = true) ∨
      (decide (g < 0) = false ∧ decide (255 < g) = false ∧ decide (c < 0) = false ∧ decide (1099511627776 ≤ c) = false ∧ decide (n < 0) = false ∧ decide (1099511627776 ≤ n) = true)) :
    Calls Try.prog 5 #[.int .i64 g, .int .i64 c, .int .i64 n, .int .u64 x] w fun e w' => e = .returned (.bool true) ∧ Below w.heap.size w w' := by
  rcases h with q1 | ⟨q1, q2⟩ | ⟨q1, q2, q3⟩ | ⟨q1, q2, q3, q4⟩ | ⟨q1, q2, q3, q4, q5⟩ | ⟨q1, q2, q3, q4, q5, q6⟩
  all_goals
    go_enter Try.func5, Try.ntmps5
    go_wp2_with (go_at_call 8; refine (works_any _).mono ?_; rintro e w1 ⟨rfl, hb⟩)
    go_ret
    exact ⟨rfl, hb⟩

set_option maxRecDepth 100000 in
set_option maxHeartbeats 8000000 in
theorem back_in (g c n : Int) (x : Nat) (w : World) (hx : x < 18446744073709551616) (g0 : 0 ≤ g) (g1 : g ≤ 255) (c0 : 0 ≤ c) (c1 : c < 1099511627776) (n0 : 0 ≤ n) (n1 : n < 1099511627776) :
    Calls Try.prog 5 #[.int .i64 g, .int .i64 c, .int .i64 n, .int .u64 x] w fun e w' => e = .returned (.bool true) ∧ Below w.heap.size w w' := by
  have HM : Hid (∀ w, Calls Try.prog 12 #[.int .i64 g, .int .i64 c] w fun e w' => e = .returned (.int .u64 (mkS g c)) ∧ Below w.heap.size w w') := fun w => pmake g c w (by omega)
  have hy : mkS g c < 18446744073709551616 := by have := mkS_lt g c; omega
  have HLy : Hid (∀ w, Calls Try.prog 9 #[.int .u64 (mkS g c)] w fun e w' => e = .returned (.tuple #[.int .i64 g, .int .i64 c, .bool true]) ∧ w' = w) := by
    have : ∀ w, _ := fun w => plook (mkS g c) w hy
    rw [gS_mk g0 g1 c0, cS_mk_small g0 g1 c0 c1, isS_mk g0 g1 c0] at this
    exact this
  have HDy : Hid (∀ w, Calls Try.prog 14 #[.int .u64 (mkS g c), .int .i64 (c + n)] w fun e w' => e = .returned (.int .i64 n) ∧ w' = w) := by
    have : ∀ w, _ := fun w => pdist (mkS g c) (c + n) w hy (by omega)
    rw [dS_later g0 g1 c0 n0 n1] at this
    exact this
  obtain ⟨Y, hY⟩ : ∃ Y, Y = mkS g c := ⟨_, rfl⟩
  rw [← hY] at HM HLy HDy
  have d1 : decide (g < 0) = false := by simp; omega
  have d2 : decide (255 < g) = false := by simp; omega
  have d3 : decide (c < 0) = false := by simp; omega
  have d4 : decide (1099511627776 ≤ c) = false := by simp; omega
  have d5 : decide (n < 0) = false := by simp; omega
  have d6 : decide (1099511627776 ≤ n) = false := by simp; omega
  have hcn : wrap64 (c + n) = c + n := by have := IntKind.wrap_i64 (c + n); unfold wrap64; omega
  have HL : Hid (∀ w, Calls Try.prog 9 #[.int .u64 x] w fun e w' => e = .returned (.tuple #[.int .i64 (gS x), .int .i64 (cS x), .bool (isS x)]) ∧ w' = w) := fun w => plook x w hx
  have HD : Hid (∀ w, Calls Try.prog 14 #[.int .u64 x, .int .i64 0] w fun e w' => e = .returned (.int .i64 (dS x 0)) ∧ w' = w) := fun w => pdist x 0 w hx (by omega)
  have HMx : Hid (∀ w, Calls Try.prog 12 #[.int .i64 (gS x), .int .i64 (cS x)] w fun e w' => e = .returned (.int .u64 (mkS (gS x) (cS x))) ∧ Below w.heap.size w w') := fun w => pmake _ _ w (by have := gS_bounds x; omega)
  have HI : Hid (isS x = decide (0 ≤ dS x 0)) := isS_dist x
  have HK : Hid (isS x = true → mkS (gS x) (cS x) = x) := fun h => mk_look h
  obtain ⟨G, e1⟩ : ∃ G, G = gS x := ⟨_, rfl⟩
  obtain ⟨C, e2⟩ : ∃ C, C = cS x := ⟨_, rfl⟩
  obtain ⟨S, e3⟩ : ∃ S, S = isS x := ⟨_, rfl⟩
  obtain ⟨D, e4⟩ : ∃ D, D = dS x 0 := ⟨_, rfl⟩
  rw [← e1, ← e2] at HL HMx HK
  rw [← e3] at HL HI HK
  rw [← e4] at HD HI
  clear e1 e2 e3 e4 hY hy
  go_enter Try.func5, Try.ntmps5
  go_wp2_with fail
  refine (works_any _).mono ?_
  rintro e w1 ⟨rfl, hb1⟩
  go_wp2_with fail
  refine (HM.out _).mono ?_
  rintro e w2 ⟨rfl, hb2⟩
  have HB : Hid (Below w.heap.size w w2) := bel_trans hb1 hb2 (Nat.le_refl _)
  clear hb1 hb2
  go_wp2_with fail
  refine (HLy.out _).mono ?_
  rintro e w3 ⟨rfl, rfl⟩
  go_wp2_with fail
  refine (HDy.out _).mono ?_
  rintro e w4 ⟨rfl, rfl⟩
  clear HDy HLy HM
  go_wp2_with fail
  refine (HL.out _).mono ?_
  rintro e w5 ⟨rfl, rfl⟩
  cases S with
  | false =>
    have hd : decide (0 ≤ D) = false := HI.out.symm
    go_wp2_with fail
    refine (HD.out _).mono ?_
    rintro e w6 ⟨rfl, rfl⟩
    go_wp2_with fail
    go_ret
    exact ⟨rfl, HB.out⟩
  | true =>
    have hd : decide (0 ≤ D) = true := HI.out.symm
    have hk : mkS G C = x := HK.out rfl
    rw [hk] at HMx
    clear hk HK
    go_wp2_with fail
    refine (HMx.out _).mono ?_
    rintro e w6 ⟨rfl, hb6⟩
    have HB6 : Hid (Below w.heap.size w w6) := bel_trans HB.out hb6 (Nat.le_refl _)
    clear hb6 HB
    go_wp2_with fail
    refine (HD.out _).mono ?_
    rintro e w7 ⟨rfl, rfl⟩
    go_wp2_with fail
    go_ret
    exact ⟨rfl, HB6.out⟩

theorem back_walk (g c n : Int) (x : Nat) (w : World) (hx : x < 18446744073709551616) :
    Calls Try.prog 5 #[.int .i64 g, .int .i64 c, .int .i64 n, .int .u64 x] w fun e w' => e = .returned (.bool true) ∧ Below w.heap.size w w' := by
  by_cases g0 : 0 ≤ g
  · by_cases g1 : g ≤ 255
    · by_cases c0 : 0 ≤ c
      · by_cases c1 : c < 1099511627776
        · by_cases n0 : 0 ≤ n
          · by_cases n1 : n < 1099511627776
            · exact back_in g c n x w hx g0 g1 c0 c1 n0 n1
            · exact back_out g c n x w (by simp only [decide_eq_true_eq, decide_eq_false_iff_not]; omega)
          · exact back_out g c n x w (by simp only [decide_eq_true_eq, decide_eq_false_iff_not]; omega)
        · exact back_out g c n x w (by simp only [decide_eq_true_eq, decide_eq_false_iff_not]; omega)
      · exact back_out g c n x w (by simp only [decide_eq_true_eq, decide_eq_false_iff_not]; omega)
    · exact back_out g c n x w (by simp only [decide_eq_true_eq, decide_eq_false_iff_not]; omega)
  · exact back_out g c n x w (by simp only [decide_eq_true_eq, decide_eq_false_iff_not]; omega)
end Go.Proofs.Ytgnobaenlcbfjaa
