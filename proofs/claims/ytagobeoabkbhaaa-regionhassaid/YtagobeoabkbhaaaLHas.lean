/-
  RegionHas, walked.
-/
import Derived.Test.YtagobeoabkbhaaaLCuts
namespace Go.Proofs.Ytagobeoabkbhaaa
open Go.RowKit

theorem addR_no {L : List Rg} {x : Rg} (h : addE L x ≠ 0) : addR L x = [] := by
  unfold addE at h
  unfold addR
  cases h1 : addArg L x with
  | false => rfl
  | true =>
    cases h2 : bz L x with
    | true => rfl
    | false => rw [h1, h2] at h; simp at h

set_option maxRecDepth 100000 in
set_option maxHeartbeats 8000000 in
theorem has_walk (a : Option Addr) (cap : Nat) (L : List Rg) (x : Rg) (p : Int) (w : World) (h : ListIn w a cap L) :
    Calls Try.prog 6 #[.slice a L.length cap, rv x, .int .i64 p] w fun e w' => e = .returned (.bool true) ∧ Below w.heap.size w w' := by
  obtain ⟨hreg, -⟩ := h
  show Calls Try.prog 6 #[.slice a L.length cap, .agg #[.int .i64 x.f, .int .i64 x.t, .int .i64 x.k, .int .i64 x.fi, .int .i64 x.ix, .bool x.wr], .int .i64 p] w fun e w' => e = .returned (.bool true) ∧ Below w.heap.size w w'
  obtain ⟨w0, hw0, hr0, hB0, -⟩ := boxOn w w x (Below.refl _ _)
  by_cases h80 : 80 < L.length
  · have q : decide (80 < L.length) = true := by simp; omega
    go_enter Try.func6, Try.ntmps6
    go_wp2_with fail
    rw [← hw0]
    refine (works _).mono ?_
    rintro e w1 ⟨rfl, hb1⟩
    go_wp2
    go_ret
    exact ⟨rfl, bel_trans hB0 hb1⟩
  have q : decide (80 < L.length) = false := by simp; omega
  have hL : L.length ≤ 1000 := by omega
  by_cases hE0 : addE L x = 0
  · obtain ⟨hRL, hVd, hn, hbz⟩ := addE_ok hE0
    have hRe := (addR_ok hRL hVd hn hbz).1
    obtain ⟨R, hR⟩ : ∃ R, addR L x = R := ⟨_, rfl⟩
    have hRa : R = addL L x := by rw [← hR, hRe]
    have hRR : RL R := by rw [hRa]; exact hRL.add hVd hbz
    have hrl : R.length ≤ 1000 := by rw [← hR]; have := addR_len L x; omega
    have hcut : cutR R x.f x.t = L := by rw [cutR_right hRR, hRa]; exact cut_add hRL hVd hbz
    have hpg : pgR L = pgs L := by unfold pgR; rw [(rt_iff L).2 hRL]; rfl
    have hpgR : pgR R = pgs L + (x.t - x.f) := by unfold pgR; rw [(rt_iff R).2 hRR, hRa]; exact pgs_add L x
    have hbd := pgs_all hRL
    obtain ⟨G, hG⟩ : ∃ G, pgs L = G := ⟨_, rfl⟩
    rw [hG] at hpg hpgR hbd
    obtain ⟨Q, hQ⟩ : ∃ Q, G + x.t = Q := ⟨_, rfl⟩
    obtain ⟨P, hP⟩ : ∃ P, Q - x.f = P := ⟨_, rfl⟩
    have hvf := hVd.1
    have hvt := hVd.2.1
    have hvm := hVd.2.2.1
    have s1 : IntKind.i64.wrap (G + x.t) = Q := by rw [IntKind.wrap_i64]; omega
    have s2 : IntKind.i64.wrap (Q - x.f) = P := by rw [IntKind.wrap_i64]; omega
    have hpgP : pgR R = P := by omega
    have H11 : Hid (∀ w, Regs w a cap L → Calls Try.prog 11 #[.slice a L.length cap, rv x] w fun e w' => ∃ a c, e = .returned (.tuple #[.slice a R.length c, .int .i64 0]) ∧ Regs w' a c R ∧ Below w.heap.size w w') := fun w h => addOut hR hE0 (padd a cap L x w h hL)
    have H20 : Hid (∀ w, Regs w a cap L → Calls Try.prog 20 #[.slice a L.length cap] w fun e w' => e = .returned (.int .i64 G) ∧ Below w.heap.size w w') := by
      intro w h
      have := ppages a cap L w h hL
      rw [hpg] at this
      exact this
    have H20b : Hid (∀ w a c, Regs w a c R → Calls Try.prog 20 #[.slice a R.length c] w fun e w' => e = .returned (.int .i64 P) ∧ Below w.heap.size w w') := by
      intro w a c h
      have := ppages a c R w h hrl
      rw [hpgP] at this
      exact this
    have H19 : Hid (∀ w a c, Regs w a c R → Calls Try.prog 19 #[.slice a R.length c] w fun e w' => e = .returned (.bool true) ∧ Below w.heap.size w w') := by
      intro w a c h
      have := pright a c R w h (by omega)
      rw [(rt_iff R).2 hRR] at this
      exact this
    have H24 : Hid (∀ w a c, Regs w a c R → Calls Try.prog 24 #[.slice a R.length c, .int .i64 x.f, .int .i64 x.t] w fun e w' => ∃ a c, e = .returned (.slice a L.length c) ∧ Regs w' a c L ∧ Below w.heap.size w w') := fun w a c h => cutOut hcut (pcut a c R x.f x.t w h hrl)
    have H15 : Hid (∀ w a b ca cb, Regs w a ca L → Regs w b cb L → Calls Try.prog 15 #[.slice a L.length ca, .slice b L.length cb] w fun e w' => e = .returned (.bool true) ∧ Below w.heap.size w w') := by
      intro w a b ca cb h1 h2
      have := rsame a b ca cb L L w h1 h2 hL
      rw [sameL_same] at this
      exact this
    have HIN : Hid (x.f ≤ p → p < x.t → fnd R p = some x ∧ fnd L p = none) := by
      intro h1 h2
      rw [fnd_right hRR, fnd_right hRL, hRa]
      exact add_in hRL hVd hbz h1 h2
    have HOUT : Hid (¬ (x.f ≤ p ∧ p < x.t) → fnd R p = fnd L p) := by
      intro h1
      rw [fnd_right hRR, fnd_right hRL, hRa]
      exact add_out hRL hVd hbz h1
    have H13 : Hid (∀ w, Regs w a cap L → Calls Try.prog 13 #[.slice a L.length cap, .int .i64 p] w fun e w' => e = .returned (fT (fnd L p)) ∧ Below w.heap.size w w') := fun w h => pfind a cap L p w h hL
    have H13b : Hid (∀ w a c, Regs w a c R → Calls Try.prog 13 #[.slice a R.length c, .int .i64 p] w fun e w' => e = .returned (fT (fnd R p)) ∧ Below w.heap.size w w') := fun w a c h => pfind a c R p w h hrl
    clear hRL hVd hn hbz hRe hR hRa hRR hrl hcut hpg hpgR hbd hG hQ hP hvf hvt hvm hpgP hE0
    by_cases h1 : x.f ≤ p
    · have q1 : decide (x.f ≤ p) = true := by simp; omega
      by_cases h2 : p < x.t
      · have q2 : decide (p < x.t) = true := by simp; omega
        obtain ⟨g1, g2⟩ := HIN.out h1 h2
        rw [g1] at H13b
        rw [g2] at H13
        simp only [fT, fV, Option.getD_some, Option.isSome_some] at H13b
        simp only [fT, fV, Option.getD_none, Option.isSome_none] at H13
        have e25 := eq25_same x
        clear HIN HOUT h1 h2 g1 g2
        go_enter Try.func6, Try.ntmps6
        go_wp2_with fail
        rw [← hw0]
        clear hw0
        refine (works _).mono ?_
        rintro e w1 ⟨rfl, hb1⟩
        have hx1 := hr0.later hb1
        have hB1 := bel_trans hB0 hb1
        clear hr0 hB0 hb1
        obtain ⟨k0, k1, k2, k3, k4, k5⟩ := hx1.six
        go_wp2_with fail
        refine (H11.out _ (hreg.later hB1)).mono ?_
        rintro e w2 ⟨a2, c2, rfl, hr2, hb2⟩
        have hx2 := hx1.later hb2
        have hB2 := bel_trans hB1 hb2
        clear hx1 hB1 hb2 k0 k1 k2 k3 k4 k5
        go_wp2_with fail
        refine (H13b.out _ _ _ hr2).mono ?_
        rintro e w3 ⟨rfl, hb3⟩
        have hx3 := hx2.later hb3
        have hr3 := hr2.later hb3
        have hB3 := bel_trans hB2 hb3
        clear hx2 hB2 hb3 hr2
        obtain ⟨w4, hw4, hy4, hB4, hb4⟩ := boxOn w w3 x hB3
        go_wp2_with fail
        rw [← hw4]
        have hx4 := hx3.later hb4
        have hr4 := hr3.later hb4
        clear hw4 hx3 hb4 hr3 hB3
        refine (H13.out _ (hreg.later hB4)).mono ?_
        rintro e w5 ⟨rfl, hb5⟩
        have hx5 := hx4.later hb5
        have hr5 := hr4.later hb5
        have hy5 := hy4.later hb5
        have hB5 := bel_trans hB4 hb5
        clear hx4 hB4 hb5 hr4 hy4
        obtain ⟨w6, hw6, hz6, hB6, hb6⟩ := boxOn w w5 zeroR hB5
        have hx6 := hx5.later hb6
        have hr6 := hr5.later hb6
        have hy6 := hy5.later hb6
        clear hx5 hb6 hr5 hy5 hB5
        obtain ⟨k0, k1, k2, k3, k4, k5⟩ := hx6.six
        obtain ⟨y0, y1, y2, y3, y4, y5⟩ := hy6.six
        obtain ⟨z0, z1, z2, z3, z4, z5⟩ := hz6.six
        rw [hw6] at k0 k1 k2 k3 k4 k5 y0 y1 y2 y3 y4 y5 z0 z1 z2 z3 z4 z5
        go_wp2_with fail
        rw [← hw6]
        clear hw6 k0 k1 k2 k3 k4 k5 y0 y1 y2 y3 y4 y5 z0 z1 z2 z3 z4 z5
        refine (H24.out _ _ _ hr6).mono ?_
        rintro e w7 ⟨a7, c7, rfl, hr7, hb7⟩
        have hx7 := hx6.later hb7
        have hrr7 := hr6.later hb7
        have hB7 := bel_trans hB6 hb7
        clear hx6 hr6 hB6 hb7 hy6 hz6
        go_wp2_with fail
        refine (H15.out _ _ _ _ _ hr7 (hreg.later hB7)).mono ?_
        rintro e w8 ⟨rfl, hb8⟩
        have hx8 := hx7.later hb8
        have hr8 := hrr7.later hb8
        have hB8 := bel_trans hB7 hb8
        have hreg8 := hreg.later hB8
        clear hx7 hrr7 hr7 hB7 hb8 hreg
        obtain ⟨k0, k1, k2, k3, k4, k5⟩ := hx8.six
        go_wp2_with fail
        have l0 := Up.cell k0
        have l1 := Up.cell k1
        have hne := Up.any w8
        refine wp_region_up (by kernel_rfl) (by kernel_rfl) ?_
        iterate 7 (go_big_quiet_step ((go_at_call 20; refine Up.call (H20b.out _ _ _ (hr8.later (Up.h _))))))
        repeat (go_big_quiet_step (first | (go_at_call 20; refine Up.call (H20.out _ (hreg8.later (Up.h _)))) | (go_at_call 19; refine Up.call (H19.out _ _ _ (hr8.later (Up.h _))))))
        refine wpQuiet_nil ?_
        intro _ hw'
        obtain ⟨⟨w9, hbw⟩, rfl⟩ := hw'
        go_wp2
        go_ret
        exact ⟨rfl, bel_trans hB8 hbw⟩
      · have q2 : decide (p < x.t) = false := by simp; omega
        have hfd := HOUT.out (fun h => h2 h.2)
        obtain ⟨O, hO⟩ : ∃ O, fnd L p = O := ⟨_, rfl⟩
        rw [hfd, hO] at H13b
        rw [hO] at H13
        obtain ⟨y, hy⟩ : ∃ y, fV O = y := ⟨_, rfl⟩
        obtain ⟨S, hS⟩ : ∃ S, O.isSome = S := ⟨_, rfl⟩
        simp only [fT, hy, hS] at H13 H13b
        have e25 := eq25_same y
        have qS : (S != S) = false := by simp
        clear HIN HOUT h1 h2 hfd hO hy hS O
        go_enter Try.func6, Try.ntmps6
        go_wp2_with fail
        rw [← hw0]
        clear hw0
        refine (works _).mono ?_
        rintro e w1 ⟨rfl, hb1⟩
        have hx1 := hr0.later hb1
        have hB1 := bel_trans hB0 hb1
        clear hr0 hB0 hb1
        obtain ⟨k0, k1, k2, k3, k4, k5⟩ := hx1.six
        go_wp2_with fail
        refine (H11.out _ (hreg.later hB1)).mono ?_
        rintro e w2 ⟨a2, c2, rfl, hr2, hb2⟩
        have hx2 := hx1.later hb2
        have hB2 := bel_trans hB1 hb2
        clear hx1 hB1 hb2 k0 k1 k2 k3 k4 k5
        go_wp2_with fail
        refine (H13b.out _ _ _ hr2).mono ?_
        rintro e w3 ⟨rfl, hb3⟩
        have hx3 := hx2.later hb3
        have hr3 := hr2.later hb3
        have hB3 := bel_trans hB2 hb3
        clear hx2 hB2 hb3 hr2
        obtain ⟨w4, hw4, hy4, hB4, hb4⟩ := boxOn w w3 y hB3
        go_wp2_with fail
        rw [← hw4]
        have hx4 := hx3.later hb4
        have hr4 := hr3.later hb4
        clear hw4 hx3 hb4 hr3 hB3
        refine (H13.out _ (hreg.later hB4)).mono ?_
        rintro e w5 ⟨rfl, hb5⟩
        have hx5 := hx4.later hb5
        have hr5 := hr4.later hb5
        have hy5 := hy4.later hb5
        have hB5 := bel_trans hB4 hb5
        clear hx4 hB4 hb5 hr4 hy4
        obtain ⟨w6, hw6, hz6, hB6, hb6⟩ := boxOn w w5 y hB5
        have hx6 := hx5.later hb6
        have hr6 := hr5.later hb6
        have hy6 := hy5.later hb6
        clear hx5 hb6 hr5 hy5 hB5
        obtain ⟨k0, k1, k2, k3, k4, k5⟩ := hx6.six
        obtain ⟨y0, y1, y2, y3, y4, y5⟩ := hy6.six
        obtain ⟨z0, z1, z2, z3, z4, z5⟩ := hz6.six
        rw [hw6] at k0 k1 k2 k3 k4 k5 y0 y1 y2 y3 y4 y5 z0 z1 z2 z3 z4 z5
        go_wp2_with fail
        rw [← hw6]
        clear hw6 k0 k1 k2 k3 k4 k5 y0 y1 y2 y3 y4 y5 z0 z1 z2 z3 z4 z5
        refine (H24.out _ _ _ hr6).mono ?_
        rintro e w7 ⟨a7, c7, rfl, hr7, hb7⟩
        have hx7 := hx6.later hb7
        have hrr7 := hr6.later hb7
        have hB7 := bel_trans hB6 hb7
        clear hx6 hr6 hB6 hb7 hy6 hz6
        go_wp2_with fail
        refine (H15.out _ _ _ _ _ hr7 (hreg.later hB7)).mono ?_
        rintro e w8 ⟨rfl, hb8⟩
        have hx8 := hx7.later hb8
        have hr8 := hrr7.later hb8
        have hB8 := bel_trans hB7 hb8
        have hreg8 := hreg.later hB8
        clear hx7 hrr7 hr7 hB7 hb8 hreg
        obtain ⟨k0, k1, k2, k3, k4, k5⟩ := hx8.six
        go_wp2_with fail
        have l0 := Up.cell k0
        have l1 := Up.cell k1
        have hne := Up.any w8
        refine wp_region_up (by kernel_rfl) (by kernel_rfl) ?_
        iterate 7 (go_big_quiet_step ((go_at_call 20; refine Up.call (H20b.out _ _ _ (hr8.later (Up.h _))))))
        repeat (go_big_quiet_step (first | (go_at_call 20; refine Up.call (H20.out _ (hreg8.later (Up.h _)))) | (go_at_call 19; refine Up.call (H19.out _ _ _ (hr8.later (Up.h _))))))
        refine wpQuiet_nil ?_
        intro _ hw'
        obtain ⟨⟨w9, hbw⟩, rfl⟩ := hw'
        go_wp2
        go_ret
        exact ⟨rfl, bel_trans hB8 hbw⟩
    · have q1 : decide (x.f ≤ p) = false := by simp; omega
      have hfd := HOUT.out (fun h => h1 h.1)
      obtain ⟨O, hO⟩ : ∃ O, fnd L p = O := ⟨_, rfl⟩
      rw [hfd, hO] at H13b
      rw [hO] at H13
      obtain ⟨y, hy⟩ : ∃ y, fV O = y := ⟨_, rfl⟩
      obtain ⟨S, hS⟩ : ∃ S, O.isSome = S := ⟨_, rfl⟩
      simp only [fT, hy, hS] at H13 H13b
      have e25 := eq25_same y
      have qS : (S != S) = false := by simp
      clear HIN HOUT h1 hfd hO hy hS O
      go_enter Try.func6, Try.ntmps6
      go_wp2_with fail
      rw [← hw0]
      clear hw0
      refine (works _).mono ?_
      rintro e w1 ⟨rfl, hb1⟩
      have hx1 := hr0.later hb1
      have hB1 := bel_trans hB0 hb1
      clear hr0 hB0 hb1
      obtain ⟨k0, k1, k2, k3, k4, k5⟩ := hx1.six
      go_wp2_with fail
      refine (H11.out _ (hreg.later hB1)).mono ?_
      rintro e w2 ⟨a2, c2, rfl, hr2, hb2⟩
      have hx2 := hx1.later hb2
      have hB2 := bel_trans hB1 hb2
      clear hx1 hB1 hb2 k0 k1 k2 k3 k4 k5
      go_wp2_with fail
      refine (H13b.out _ _ _ hr2).mono ?_
      rintro e w3 ⟨rfl, hb3⟩
      have hx3 := hx2.later hb3
      have hr3 := hr2.later hb3
      have hB3 := bel_trans hB2 hb3
      clear hx2 hB2 hb3 hr2
      obtain ⟨w4, hw4, hy4, hB4, hb4⟩ := boxOn w w3 y hB3
      go_wp2_with fail
      rw [← hw4]
      have hx4 := hx3.later hb4
      have hr4 := hr3.later hb4
      clear hw4 hx3 hb4 hr3 hB3
      refine (H13.out _ (hreg.later hB4)).mono ?_
      rintro e w5 ⟨rfl, hb5⟩
      have hx5 := hx4.later hb5
      have hr5 := hr4.later hb5
      have hy5 := hy4.later hb5
      have hB5 := bel_trans hB4 hb5
      clear hx4 hB4 hb5 hr4 hy4
      obtain ⟨w6, hw6, hz6, hB6, hb6⟩ := boxOn w w5 y hB5
      have hx6 := hx5.later hb6
      have hr6 := hr5.later hb6
      have hy6 := hy5.later hb6
      clear hx5 hb6 hr5 hy5 hB5
      obtain ⟨k0, k1, k2, k3, k4, k5⟩ := hx6.six
      obtain ⟨y0, y1, y2, y3, y4, y5⟩ := hy6.six
      obtain ⟨z0, z1, z2, z3, z4, z5⟩ := hz6.six
      rw [hw6] at k0 k1 k2 k3 k4 k5 y0 y1 y2 y3 y4 y5 z0 z1 z2 z3 z4 z5
      go_wp2_with fail
      rw [← hw6]
      clear hw6 k0 k1 k2 k3 k4 k5 y0 y1 y2 y3 y4 y5 z0 z1 z2 z3 z4 z5
      refine (H24.out _ _ _ hr6).mono ?_
      rintro e w7 ⟨a7, c7, rfl, hr7, hb7⟩
      have hx7 := hx6.later hb7
      have hrr7 := hr6.later hb7
      have hB7 := bel_trans hB6 hb7
      clear hx6 hr6 hB6 hb7 hy6 hz6
      go_wp2_with fail
      refine (H15.out _ _ _ _ _ hr7 (hreg.later hB7)).mono ?_
      rintro e w8 ⟨rfl, hb8⟩
      have hx8 := hx7.later hb8
      have hr8 := hrr7.later hb8
      have hB8 := bel_trans hB7 hb8
      have hreg8 := hreg.later hB8
      clear hx7 hrr7 hr7 hB7 hb8 hreg
      obtain ⟨k0, k1, k2, k3, k4, k5⟩ := hx8.six
      go_wp2_with fail
      have l0 := Up.cell k0
      have l1 := Up.cell k1
      have hne := Up.any w8
      refine wp_region_up (by kernel_rfl) (by kernel_rfl) ?_
      iterate 7 (go_big_quiet_step ((go_at_call 20; refine Up.call (H20b.out _ _ _ (hr8.later (Up.h _))))))
      repeat (go_big_quiet_step (first | (go_at_call 20; refine Up.call (H20.out _ (hreg8.later (Up.h _)))) | (go_at_call 19; refine Up.call (H19.out _ _ _ (hr8.later (Up.h _))))))
      refine wpQuiet_nil ?_
      intro _ hw'
      obtain ⟨⟨w9, hbw⟩, rfl⟩ := hw'
      go_wp2
      go_ret
      exact ⟨rfl, bel_trans hB8 hbw⟩
  · have hRe := addR_no hE0
    obtain ⟨E, hE⟩ : ∃ E, addE L x = E := ⟨_, rfl⟩
    have H11 : Hid (∀ w, Regs w a cap L → Calls Try.prog 11 #[.slice a L.length cap, rv x] w fun e w' => ∃ a c, e = .returned (.tuple #[.slice a 0 c, .int .i64 E]) ∧ Regs w' a c [] ∧ Below w.heap.size w w') := fun w h => addOut hRe hE (padd a cap L x w h hL)
    rw [hE] at hE0
    have qE : (E != 0) = true := by simp; omega
    clear hRe hE hE0
    go_enter Try.func6, Try.ntmps6
    go_wp2_with fail
    rw [← hw0]
    clear hw0
    refine (works _).mono ?_
    rintro e w1 ⟨rfl, hb1⟩
    have hx1 := hr0.later hb1
    have hB1 := bel_trans hB0 hb1
    clear hr0 hB0 hb1
    obtain ⟨k0, k1, k2, k3, k4, k5⟩ := hx1.six
    go_wp2_with fail
    refine (H11.out _ (hreg.later hB1)).mono ?_
    rintro e w2 ⟨a2, c2, rfl, hr2, hb2⟩
    go_wp2
    go_ret
    exact ⟨rfl, bel_trans hB1 hb2⟩
end Go.Proofs.Ytagobeoabkbhaaa
