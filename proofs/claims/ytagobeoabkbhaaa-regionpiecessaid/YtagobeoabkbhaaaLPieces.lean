/-
  RegionPieces, walked.
-/
import Derived.Test.YtagobeoabkbhaaaLCuts
namespace Go.Proofs.Ytagobeoabkbhaaa
open Go.RowKit

set_option maxRecDepth 100000 in
set_option maxHeartbeats 8000000 in
theorem pieces_walk (a : Option Addr) (cap : Nat) (L : List Rg) (f m t : Int) (w : World) (h : ListIn w a cap L) :
    Calls Try.prog 7 #[.slice a L.length cap, .int .i64 f, .int .i64 m, .int .i64 t] w fun e w' => e = .returned (.bool true) ∧ Below w.heap.size w w' := by
  obtain ⟨hreg, hmax⟩ := h
  have H16 : Hid (∀ w, Regs w a cap L → Calls Try.prog 16 #[.slice a L.length cap] w fun e w' => e = .returned (.bool (rt 0 L)) ∧ Below w.heap.size w w') := fun w h => rright a cap L w h hmax
  by_cases h80 : 80 < L.length
  · have q : decide (80 < L.length) = true := by simp; omega
    obtain ⟨T, hT⟩ : ∃ T, rt 0 L = T := ⟨_, rfl⟩
    rw [hT] at H16
    clear hT
    go_enter Try.func7, Try.ntmps7
    go_wp2_with fail
    refine (works _).mono ?_
    rintro e w1 ⟨rfl, hb1⟩
    go_wp2_with fail
    refine (H16.out _ (hreg.later hb1)).mono ?_
    rintro e w2 ⟨rfl, hb2⟩
    go_wp2
    go_ret
    exact ⟨rfl, bel_trans hb1 hb2⟩
  have q : decide (80 < L.length) = false := by simp; omega
  have hL : L.length ≤ 1000 := by omega
  cases hq : rt 0 L with
  | false =>
    rw [hq] at H16
    clear hq
    go_enter Try.func7, Try.ntmps7
    go_wp2_with fail
    refine (works _).mono ?_
    rintro e w1 ⟨rfl, hb1⟩
    go_wp2_with fail
    refine (H16.out _ (hreg.later hb1)).mono ?_
    rintro e w2 ⟨rfl, hb2⟩
    go_wp2
    go_ret
    exact ⟨rfl, bel_trans hb1 hb2⟩
  | true =>
    have hRL := (rt_iff L).1 hq
    rw [hq] at H16
    clear hq
    by_cases h1 : m < f
    · have q1 : decide (m < f) = true := by simp; omega
      clear hRL
      go_enter Try.func7, Try.ntmps7
      go_wp2_with fail
      refine (works _).mono ?_
      rintro e w1 ⟨rfl, hb1⟩
      go_wp2_with fail
      refine (H16.out _ (hreg.later hb1)).mono ?_
      rintro e w2 ⟨rfl, hb2⟩
      go_wp2
      go_ret
      exact ⟨rfl, bel_trans hb1 hb2⟩
    have q1 : decide (m < f) = false := by simp; omega
    by_cases h2 : t < m
    · have q2 : decide (t < m) = true := by simp; omega
      clear hRL
      go_enter Try.func7, Try.ntmps7
      go_wp2_with fail
      refine (works _).mono ?_
      rintro e w1 ⟨rfl, hb1⟩
      go_wp2_with fail
      refine (H16.out _ (hreg.later hb1)).mono ?_
      rintro e w2 ⟨rfl, hb2⟩
      go_wp2
      go_ret
      exact ⟨rfl, bel_trans hb1 hb2⟩
    have q2 : decide (t < m) = false := by simp; omega
    obtain ⟨A, hA⟩ : ∃ A, cutR L f t = A := ⟨_, rfl⟩
    obtain ⟨B, hB⟩ : ∃ B, cutR L f m = B := ⟨_, rfl⟩
    have hAe : A = cutL L f t := by rw [← hA, cutR_right hRL]
    have hBe : B = cutL L f m := by rw [← hB, cutR_right hRL]
    have hAR : RL A := by rw [hAe]; exact hRL.cut f t
    have hBR : RL B := by rw [hBe]; exact hRL.cut f m
    have hAl : A.length ≤ 1000 := by rw [← hA]; have := cutR_len L f t; omega
    have hBl : B.length ≤ 1000 := by rw [← hB]; have := cutR_len L f m; omega
    have hBA : cutR B m t = A := by rw [cutR_right hBR, hBe, hAe]; exact cut_cut hRL (by omega) (by omega)
    have hAA : cutR A f t = A := by rw [cutR_right hAR, hAe]; exact cut_twice hRL f t
    obtain ⟨G, hG⟩ : ∃ G, pgR A = G := ⟨_, rfl⟩
    have H1 : Hid (∀ w, Regs w a cap L → Calls Try.prog 24 #[.slice a L.length cap, .int .i64 f, .int .i64 t] w fun e w' => ∃ a c, e = .returned (.slice a A.length c) ∧ Regs w' a c A ∧ Below w.heap.size w w') := fun w h => cutOut hA (pcut a cap L f t w h hL)
    have H2 : Hid (∀ w, Regs w a cap L → Calls Try.prog 24 #[.slice a L.length cap, .int .i64 f, .int .i64 m] w fun e w' => ∃ a c, e = .returned (.slice a B.length c) ∧ Regs w' a c B ∧ Below w.heap.size w w') := fun w h => cutOut hB (pcut a cap L f m w h hL)
    have H3 : Hid (∀ w a c, Regs w a c B → Calls Try.prog 24 #[.slice a B.length c, .int .i64 m, .int .i64 t] w fun e w' => ∃ a c, e = .returned (.slice a A.length c) ∧ Regs w' a c A ∧ Below w.heap.size w w') := fun w a c h => cutOut hBA (pcut a c B m t w h hBl)
    have H4 : Hid (∀ w a c, Regs w a c A → Calls Try.prog 24 #[.slice a A.length c, .int .i64 f, .int .i64 t] w fun e w' => ∃ a c, e = .returned (.slice a A.length c) ∧ Regs w' a c A ∧ Below w.heap.size w w') := fun w a c h => cutOut hAA (pcut a c A f t w h hAl)
    have H20 : Hid (∀ w a c, Regs w a c A → Calls Try.prog 20 #[.slice a A.length c] w fun e w' => e = .returned (.int .i64 G) ∧ Below w.heap.size w w') := by
      intro w a c h
      have := ppages a c A w h hAl
      rw [hG] at this
      exact this
    have H15 : Hid (∀ w a b ca cb, Regs w a ca A → Regs w b cb A → Calls Try.prog 15 #[.slice a A.length ca, .slice b A.length cb] w fun e w' => e = .returned (.bool true) ∧ Below w.heap.size w w') := by
      intro w a b ca cb h1 h2
      have := rsame a b ca cb A A w h1 h2 hAl
      rw [sameL_same] at this
      exact this
    have H13 : Hid (∀ w a c j (hj : j < A.length), Regs w a c A → Calls Try.prog 13 #[.slice a A.length c, .int .i64 A[j].f] w fun e w' => e = .returned (.tuple #[rv A[j], .bool true]) ∧ Below w.heap.size w w') := by
      intro w a c j hj h
      have := pfind a c A A[j].f w h hAl
      have hf : fnd A A[j].f = some A[j] := by
        rw [fnd_right hAR]
        exact fd_mem hAR (List.getElem_mem hj) ⟨Int.le_refl _, (hAR.vd hj).2.1⟩
      rw [hf] at this
      exact this
    clear hA hB hAe hBe hAR hBR hBl hBA hAA hG hRL
    have qG : (G != G) = false := by simp
    go_enter Try.func7, Try.ntmps7
    go_wp2_with fail
    refine (works _).mono ?_
    rintro e w1 ⟨rfl, hB1⟩
    go_wp2_with fail
    refine (H16.out _ (hreg.later hB1)).mono ?_
    rintro e w2 ⟨rfl, hb2⟩
    have hB2 := bel_trans hB1 hb2
    clear hB1 hb2
    go_wp2_with fail
    refine (H1.out _ (hreg.later hB2)).mono ?_
    rintro e w3 ⟨aA, cA, rfl, hr3, hb3⟩
    have hB3 := bel_trans hB2 hb3
    clear hB2 hb3
    go_wp2_with fail
    refine (H2.out _ (hreg.later hB3)).mono ?_
    rintro e w4 ⟨aX, cX, rfl, hx4, hb4⟩
    have hB4 := bel_trans hB3 hb4
    have hr4 := hr3.later hb4
    clear hB3 hb4 hr3
    go_wp2_with fail
    refine (H3.out _ _ _ hx4).mono ?_
    rintro e w5 ⟨aB, cB, rfl, hs5, hb5⟩
    have hB5 := bel_trans hB4 hb5
    have hr5 := hr4.later hb5
    clear hB4 hb5 hr4 hx4
    go_wp2_with fail
    refine (H4.out _ _ _ hr5).mono ?_
    rintro e w6 ⟨aC, cC, rfl, hc6, hb6⟩
    have hB6 := bel_trans hB5 hb6
    have hr6 := hr5.later hb6
    have hs6 := hs5.later hb6
    clear hB5 hb6 hr5 hs5
    go_wp2_with fail
    refine (H20.out _ _ _ hr6).mono ?_
    rintro e w7 ⟨rfl, hb7⟩
    have hB7 := bel_trans hB6 hb7
    have hr7 := hr6.later hb7
    have hs7 := hs6.later hb7
    have hc7 := hc6.later hb7
    clear hB6 hb7 hr6 hs6 hc6
    go_wp2_with fail
    refine (H15.out _ _ _ _ _ hc7 hr7).mono ?_
    rintro e w8 ⟨rfl, hb8⟩
    have hB8 := bel_trans hB7 hb8
    have hr8 := hr7.later hb8
    have hs8 := hs7.later hb8
    clear hB7 hb8 hr7 hs7 hc7
    go_wp2_with fail
    refine (H20.out _ _ _ hs8).mono ?_
    rintro e w9 ⟨rfl, hb9⟩
    have hB9 := bel_trans hB8 hb9
    have hr9 := hr8.later hb9
    have hs9 := hs8.later hb9
    clear hB8 hb9 hr8 hs8 H1 H2 H3 H4 H15 H16 H20 hreg
    go_wp2
    go_loopw [16] (fun s16 wr => ∃ (j : Nat), j ≤ A.length ∧ s16 = .int .i64 j ∧ Regs wr aA cA A ∧ Regs wr aB cB A ∧ Below w.heap.size w wr) (fun s16 _ => A.length - (intOf s16).toNat)
    case atStart => exact ⟨0, by omega, rfl, hr9, hs9, hB9⟩
    case round =>
      obtain ⟨j, hj, rfl, hr, hs, hb⟩ := hrel
      clear hr9 hs9 hB9
      by_cases hjl : j < A.length
      · have hd : decide (j < A.length) = true := by simp; omega
        have hy := fun w a c h => H13.out w a c j hjl h
        obtain ⟨b, off, rfl, c0, c1, c2, c3, c4, c5⟩ := hs.get hjl
        obtain ⟨y, hye⟩ : ∃ y, y = A[j] := ⟨_, rfl⟩
        rw [← hye] at hy c0 c1 c2 c3 c4 c5
        have HY : Hid (∀ w a c, Regs w a c A → Calls Try.prog 13 #[.slice a A.length c, .int .i64 y.f] w fun e w' => e = .returned (.tuple #[rv y, .bool true]) ∧ Below w.heap.size w w') := hy
        have HE : Hid (y = A[j]) := hye
        obtain ⟨kf, hkf⟩ : ∃ kf, kF y = kf := ⟨_, rfl⟩
        obtain ⟨ki, hki⟩ : ∃ ki, kI y y.f = ki := ⟨_, rfl⟩
        have H22 : Hid (∀ w, Calls Try.prog 22 #[rv y, .int .i64 y.f] w fun e w' => e = .returned (.agg #[.int .i64 kf, .int .i64 ki]) ∧ Below w.heap.size w w') := by
          intro w
          have := pkey y y.f w
          rw [hkf, hki] at this
          exact this
        have e37 := eq37_same kf ki
        clear hy hye hkf hki
        go_wp2_with fail
        refine (HY.out _ _ _ hr).mono ?_
        rintro e w10 ⟨rfl, hb10⟩
        have hB10 := bel_trans hb hb10
        have hr10 := hr.later hb10
        have hs10 := hs.later hb10
        clear c0 c1 c2 c3 c4 c5 hb hr hs hb10
        obtain ⟨w11, hw11, hy11, hB11, hb11⟩ := boxOn w w10 y hB10
        go_wp2_with fail
        rw [← hw11]
        have hr11 := hr10.later hb11
        have hs11 := hs10.later hb11
        clear hw11 hb11 hr10 hs10 hB10
        have hc := hs11.cells hjl
        rw [← HE.out] at hc
        obtain ⟨c0, c1, c2, c3, c4, c5⟩ := hc
        obtain ⟨y0, y1, y2, y3, y4, y5⟩ := hy11.six
        have l0 := Up.cell c0
        have l1 := Up.cell c1
        have l2 := Up.cell c2
        have l3 := Up.cell c3
        have l4 := Up.cell c4
        have l5 := Up.cell c5
        have m0 := Up.cell y0
        have m1 := Up.cell y1
        have m2 := Up.cell y2
        have m3 := Up.cell y3
        have m4 := Up.cell y4
        have m5 := Up.cell y5
        have hne := Up.any w11
        refine wp_region_up (by kernel_rfl) (by kernel_rfl) ?_
        repeat (go_big_quiet_step ((go_at_call 22; refine Up.call (H22.out _))))
        refine wpQuiet_nil ?_
        intro _ hw'
        obtain ⟨⟨w12, hbw⟩, rfl⟩ := hw'
        have hB12 := bel_trans hB11 hbw
        have hr12 := hr11.later hbw
        have hs12 := hs11.later hbw
        clear l0 l1 l2 l3 l4 l5 m0 m1 m2 m3 m4 m5 c0 c1 c2 c3 c4 c5 y0 y1 y2 y3 y4 y5 hne hbw hr11 hs11 hy11 hB11 H13 HY H22
        go_wp2
        exact ⟨⟨j + 1, by omega, by go_num, hr12, hs12, hB12⟩, by simp [intOf]; omega⟩
      · have hd : decide (j < A.length) = false := by simp; omega
        go_wp2
        go_ret
        exact ⟨rfl, hb⟩
end Go.Proofs.Ytagobeoabkbhaaa
