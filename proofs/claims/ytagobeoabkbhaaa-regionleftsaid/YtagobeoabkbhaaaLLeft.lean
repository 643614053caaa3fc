/-
  RegionLeft, walked.
-/
import Derived.Test.YtagobeoabkbhaaaLCuts
namespace Go.Proofs.Ytagobeoabkbhaaa
open Go.RowKit

set_option maxRecDepth 100000 in
set_option maxHeartbeats 8000000 in
theorem left_walk (a : Option Addr) (cap : Nat) (L : List Rg) (f t p : Int) (w : World) (h : ListIn w a cap L) :
    Calls Try.prog 5 #[.slice a L.length cap, .int .i64 f, .int .i64 t, .int .i64 p] w fun e w' => e = .returned (.bool true) ∧ Below w.heap.size w w' := by
  obtain ⟨hreg, hmax⟩ := h
  have H16 : Hid (∀ w, Regs w a cap L → Calls Try.prog 16 #[.slice a L.length cap] w fun e w' => e = .returned (.bool (rt 0 L)) ∧ Below w.heap.size w w') := fun w h => rright a cap L w h hmax
  by_cases h80 : 80 < L.length
  · have q : decide (80 < L.length) = true := by simp; omega
    obtain ⟨T, hT⟩ : ∃ T, rt 0 L = T := ⟨_, rfl⟩
    rw [hT] at H16
    clear hT
    go_enter Try.func5, Try.ntmps5
    go_wp2_with fail
    refine (works _).mono ?_
    rintro e w1 ⟨rfl, hb1⟩
    go_wp2_with fail
    refine (H16.out _ (hreg.later hb1)).mono ?_
    rintro e w2 ⟨rfl, hb2⟩
    go_wp2
    go_ret
    exact ⟨rfl, bel_trans hb1 hb2⟩
  · have q : decide (80 < L.length) = false := by simp; omega
    have hL : L.length ≤ 1000 := by omega
    cases hq : rt 0 L with
    | false =>
      rw [hq] at H16
      clear hq
      go_enter Try.func5, Try.ntmps5
      go_wp2_with fail
      refine (works _).mono ?_
      rintro e w1 ⟨rfl, hb1⟩
      go_wp2_with fail
      refine (H16.out _ (hreg.later hb1)).mono ?_
      rintro e w2 ⟨rfl, hb2⟩
      go_wp2
      go_ret
      exact ⟨rfl, bel_trans hb1 hb2⟩
    | true =>
      have hRL := (rt_iff L).1 hq
      rw [hq] at H16
      clear hq
      obtain ⟨R, hR⟩ : ∃ R, cutR L f t = R := ⟨_, rfl⟩
      have hRe : R = cutL L f t := by rw [← hR, cutR_right hRL]
      have hRR : RL R := by rw [hRe]; exact hRL.cut f t
      have hrl : R.length ≤ 1000 := by rw [← hR]; have := cutR_len L f t; omega
      obtain ⟨O, hO⟩ : ∃ O, fnd L p = O := ⟨_, rfl⟩
      obtain ⟨O2, hO2⟩ : ∃ O2, fnd R p = O2 := ⟨_, rfl⟩
      have HO : Hid (fd L p = O) := by show _ = _; rw [← hO, fnd_right hRL]
      have HO2 : Hid (fd (cutL L f t) p = O2) := by show _ = _; rw [← hO2, fnd_right hRR, hRe]
      have H24 : Hid (∀ w, Regs w a cap L → Calls Try.prog 24 #[.slice a L.length cap, .int .i64 f, .int .i64 t] w fun e w' => ∃ a c, e = .returned (.slice a R.length c) ∧ Regs w' a c R ∧ Below w.heap.size w w') := fun w h => cutOut hR (pcut a cap L f t w h hL)
      have H13 : Hid (∀ w, Regs w a cap L → Calls Try.prog 13 #[.slice a L.length cap, .int .i64 p] w fun e w' => e = .returned (.tuple #[rv (fV O), .bool O.isSome]) ∧ Below w.heap.size w w') := by
        intro w h
        have := pfind a cap L p w h hL
        rw [hO] at this
        exact this
      have H13b : Hid (∀ w a c, Regs w a c R → Calls Try.prog 13 #[.slice a R.length c, .int .i64 p] w fun e w' => e = .returned (.tuple #[rv (fV O2), .bool O2.isSome]) ∧ Below w.heap.size w w') := by
        intro w a c h
        have := pfind a c R p w h hrl
        rw [hO2] at this
        exact this
      have H19 : Hid (∀ w a c, Regs w a c R → Calls Try.prog 19 #[.slice a R.length c] w fun e w' => e = .returned (.bool true) ∧ Below w.heap.size w w') := by
        intro w a c h
        have := pright a c R w h (by omega)
        rw [(rt_iff R).2 hRR] at this
        exact this
      have HRL : Hid (RL L) := hRL
      clear hR hRe hRR hrl hO hO2 hRL
      obtain ⟨y, hy⟩ : ∃ y, fV O = y := ⟨_, rfl⟩
      obtain ⟨z, hz⟩ : ∃ z, fV O2 = z := ⟨_, rfl⟩
      obtain ⟨S, hS⟩ : ∃ S, O.isSome = S := ⟨_, rfl⟩
      obtain ⟨S2, hS2⟩ : ∃ S2, O2.isSome = S2 := ⟨_, rfl⟩
      have HIN : Hid (f ≤ p → p < t → S2 = false) := by
        intro h1 h2
        rw [← hS2, ← HO2.out, cut_in HRL.out h1 h2]; rfl
      have HNO : Hid (S = false → S2 = false) := by
        intro h1
        have h2 : O = none := by
          cases O with
          | none => rfl
          | some o => rw [← hS] at h1; cases h1
        have h3 := HO.out
        rw [h2] at h3
        rw [← hS2, ← HO2.out, cut_none HRL.out h3]; rfl
      have HYES : Hid (S = true → p < f ∨ t ≤ p → S2 = true ∧ z.k = y.k ∧ z.wr = y.wr ∧ kF z = kF y ∧ kI z p = kI y p) := by
        intro h1 h2
        cases O with
        | none => rw [← hS] at h1; cases h1
        | some o =>
          obtain ⟨u, g1, g2, g3, g4, g5⟩ := cut_out HRL.out HO.out h2
          have h4 : O2 = some u := by rw [← HO2.out, g1]
          subst h4
          subst hy
          subst hz
          exact ⟨hS2.symm, g2, g3, g4, g5⟩
      rw [hy, hS] at H13
      rw [hz, hS2] at H13b
      clear hy hz hS hS2 HO HO2 HRL
      go_enter Try.func5, Try.ntmps5
      go_wp2_with fail
      refine (works _).mono ?_
      rintro e w1 ⟨rfl, hB1⟩
      go_wp2_with fail
      refine (H16.out _ (hreg.later hB1)).mono ?_
      rintro e w2 ⟨rfl, hb2⟩
      have hB2 := bel_trans hB1 hb2
      clear hB1 hb2
      go_wp2_with fail
      refine (H24.out _ (hreg.later hB2)).mono ?_
      rintro e w3 ⟨a3, c3, rfl, hr3, hb3⟩
      have hB3 := bel_trans hB2 hb3
      clear hB2 hb3
      go_wp2_with fail
      refine (H13.out _ (hreg.later hB3)).mono ?_
      rintro e w4 ⟨rfl, hb4⟩
      have hB4 := bel_trans hB3 hb4
      have hr4 := hr3.later hb4
      clear hB3 hb4 hr3
      obtain ⟨w5, hw5, hy5, hB5, hb5⟩ := boxOn w w4 y hB4
      go_wp2_with fail
      rw [← hw5]
      have hr5 := hr4.later hb5
      clear hw5 hb5 hr4 hB4
      refine (H13b.out _ _ _ hr5).mono ?_
      rintro e w6 ⟨rfl, hb6⟩
      have hB6 := bel_trans hB5 hb6
      have hr6 := hr5.later hb6
      have hy6 := hy5.later hb6
      clear hB5 hb6 hr5 hy5
      obtain ⟨w7, hw7, hz7, hB7, hb7⟩ := boxOn w w6 z hB6
      go_wp2_with fail
      rw [← hw7]
      have hr7 := hr6.later hb7
      have hy7 := hy6.later hb7
      clear hw7 hb7 hr6 hy6 hB6
      refine (H19.out _ _ _ hr7).mono ?_
      rintro e w8 ⟨rfl, hb8⟩
      have hB8 := bel_trans hB7 hb8
      have hy8 := hy7.later hb8
      have hz8 := hz7.later hb8
      clear hB7 hb8 hr7 hy7 hz7
      have hout : ∀ (q1 : ¬ (f ≤ p ∧ p < t)), p < f ∨ t ≤ p := fun q1 => by omega
      have HREST : Hid (p < f ∨ t ≤ p → S = true → S2 = true ∧ z.k = y.k ∧ z.wr = y.wr ∧ kF z = kF y ∧ kI z p = kI y p) := fun h1 h2 => HYES.out h2 h1
      clear HYES
      by_cases h1 : f ≤ p
      · have q1 : decide (f ≤ p) = true := by simp; omega
        by_cases h2 : p < t
        · have q2 : decide (p < t) = true := by simp; omega
          obtain rfl := HIN.out h1 h2
          clear HIN HNO HREST hout h1 h2
          go_wp2
          go_ret
          exact ⟨rfl, hB8⟩
        · have q2 : decide (p < t) = false := by simp; omega
          have hp : p < f ∨ t ≤ p := hout (fun h => h2 h.2)
          cases S with
          | false =>
            obtain rfl := HNO.out rfl
            clear HIN HNO HREST hout h1 h2 hp
            go_wp2
            go_ret
            exact ⟨rfl, hB8⟩
          | true =>
            obtain ⟨rfl, g1, g2, g3, g4⟩ := HREST.out hp rfl
            obtain ⟨kf, hkf⟩ : ∃ kf, kF y = kf := ⟨_, rfl⟩
            obtain ⟨ki, hki⟩ : ∃ ki, kI y p = ki := ⟨_, rfl⟩
            have H22 : Hid (∀ w, Calls Try.prog 22 #[rv y, .int .i64 p] w fun e w' => e = .returned (.agg #[.int .i64 kf, .int .i64 ki]) ∧ Below w.heap.size w w') := by
              intro w
              have := pkey y p w
              rw [hkf, hki] at this
              exact this
            have H22b : Hid (∀ w, Calls Try.prog 22 #[.agg #[.int .i64 z.f, .int .i64 z.t, .int .i64 y.k, .int .i64 z.fi, .int .i64 z.ix, .bool y.wr], .int .i64 p] w fun e w' => e = .returned (.agg #[.int .i64 kf, .int .i64 ki]) ∧ Below w.heap.size w w') := by
              intro w
              have := pkey z p w
              rw [g3, g4, hkf, hki] at this
              rw [← g1, ← g2]
              exact this
            have e37 := eq37_same kf ki
            obtain ⟨y0, y1, y2, y3, y4, y5⟩ := hy8.six
            obtain ⟨z0, z1, z2, z3, z4, z5⟩ := hz8.six
            rw [g1] at z2
            rw [g2] at z5
            clear HIN HNO HREST hout h1 h2 hp g3 g4 hkf hki
            go_wp2_with fail
            have m0 := Up.cell y0
            have m1 := Up.cell y1
            have m2 := Up.cell y2
            have m3 := Up.cell y3
            have m4 := Up.cell y4
            have m5 := Up.cell y5
            have n0 := Up.cell z0
            have n1 := Up.cell z1
            have n2 := Up.cell z2
            have n3 := Up.cell z3
            have n4 := Up.cell z4
            have n5 := Up.cell z5
            have hne := Up.any w8
            refine wp_region_up (by kernel_rfl) (by kernel_rfl) ?_
            iterate 22 (go_big_quiet_step ((go_at_call 22; refine Up.call (H22.out _))))
            repeat (go_big_quiet_step ((go_at_call 22; refine Up.call (H22b.out _))))
            refine wpQuiet_nil ?_
            intro _ hw'
            obtain ⟨⟨w10, hbw⟩, rfl⟩ := hw'
            go_wp2
            go_ret
            exact ⟨rfl, bel_trans hB8 hbw⟩
      · have q1 : decide (f ≤ p) = false := by simp; omega
        have hp : p < f ∨ t ≤ p := hout (fun h => h1 h.1)
        cases S with
        | false =>
          obtain rfl := HNO.out rfl
          clear HIN HNO HREST hout h1 hp
          go_wp2
          go_ret
          exact ⟨rfl, hB8⟩
        | true =>
          obtain ⟨rfl, g1, g2, g3, g4⟩ := HREST.out hp rfl
          obtain ⟨kf, hkf⟩ : ∃ kf, kF y = kf := ⟨_, rfl⟩
          obtain ⟨ki, hki⟩ : ∃ ki, kI y p = ki := ⟨_, rfl⟩
          have H22 : Hid (∀ w, Calls Try.prog 22 #[rv y, .int .i64 p] w fun e w' => e = .returned (.agg #[.int .i64 kf, .int .i64 ki]) ∧ Below w.heap.size w w') := by
            intro w
            have := pkey y p w
            rw [hkf, hki] at this
            exact this
          have H22b : Hid (∀ w, Calls Try.prog 22 #[.agg #[.int .i64 z.f, .int .i64 z.t, .int .i64 y.k, .int .i64 z.fi, .int .i64 z.ix, .bool y.wr], .int .i64 p] w fun e w' => e = .returned (.agg #[.int .i64 kf, .int .i64 ki]) ∧ Below w.heap.size w w') := by
            intro w
            have := pkey z p w
            rw [g3, g4, hkf, hki] at this
            rw [← g1, ← g2]
            exact this
          have e37 := eq37_same kf ki
          obtain ⟨y0, y1, y2, y3, y4, y5⟩ := hy8.six
          obtain ⟨z0, z1, z2, z3, z4, z5⟩ := hz8.six
          rw [g1] at z2
          rw [g2] at z5
          clear HIN HNO HREST hout h1 hp g3 g4 hkf hki
          go_wp2_with fail
          have m0 := Up.cell y0
          have m1 := Up.cell y1
          have m2 := Up.cell y2
          have m3 := Up.cell y3
          have m4 := Up.cell y4
          have m5 := Up.cell y5
          have n0 := Up.cell z0
          have n1 := Up.cell z1
          have n2 := Up.cell z2
          have n3 := Up.cell z3
          have n4 := Up.cell z4
          have n5 := Up.cell z5
          have hne := Up.any w8
          refine wp_region_up (by kernel_rfl) (by kernel_rfl) ?_
          iterate 22 (go_big_quiet_step ((go_at_call 22; refine Up.call (H22.out _))))
          repeat (go_big_quiet_step ((go_at_call 22; refine Up.call (H22b.out _))))
          refine wpQuiet_nil ?_
          intro _ hw'
          obtain ⟨⟨w10, hbw⟩, rfl⟩ := hw'
          go_wp2
          go_ret
          exact ⟨rfl, bel_trans hB8 hbw⟩
end Go.Proofs.Ytagobeoabkbhaaa
