/-
  RegionWhole, walked.
-/
import Derived.Test.YtagobeoabkbhaaaLCuts
namespace Go.Proofs.Ytagobeoabkbhaaa
open Go.RowKit

set_option maxRecDepth 100000 in
set_option maxHeartbeats 8000000 in
theorem whole_walk (a : Option Addr) (cap : Nat) (L : List Rg) (w : World) (h : ListIn w a cap L) :
    Calls Try.prog 9 #[.slice a L.length cap] w fun e w' => e = .returned (.bool true) ∧ Below w.heap.size w w' := by
  obtain ⟨hreg, hmax⟩ := h
  have H16 : Hid (∀ w, Regs w a cap L → Calls Try.prog 16 #[.slice a L.length cap] w fun e w' => e = .returned (.bool (rt 0 L)) ∧ Below w.heap.size w w') := fun w h => rright a cap L w h hmax
  by_cases h80 : 80 < L.length
  · have q : decide (80 < L.length) = true := by simp; omega
    cases hq : rt 0 L with
    | false =>
      rw [hq] at H16
      clear hq
      go_enter Try.func9, Try.ntmps9
      go_wp2_with fail
      refine (works _).mono ?_
      rintro e w1 ⟨rfl, hb1⟩
      go_wp2_with fail
      refine (H16.out _ (hreg.later hb1)).mono ?_
      rintro e w2 ⟨rfl, hb2⟩
      go_wp2
      go_ret
      exact ⟨rfl, bel_trans hb1 hb2⟩
    | true =>
      rw [hq] at H16
      clear hq
      go_enter Try.func9, Try.ntmps9
      go_wp2_with fail
      refine (works _).mono ?_
      rintro e w1 ⟨rfl, hb1⟩
      go_wp2_with fail
      refine (H16.out _ (hreg.later hb1)).mono ?_
      rintro e w2 ⟨rfl, hb2⟩
      go_wp2
      go_ret
      exact ⟨rfl, bel_trans hb1 hb2⟩
  have q : decide (80 < L.length) = false := by simp; omega
  have hL : L.length ≤ 1000 := by omega
  cases hq : rt 0 L with
  | false =>
    have hpg : pgR L = 0 := by unfold pgR; rw [hq]; rfl
    have H20 : Hid (∀ w, Regs w a cap L → Calls Try.prog 20 #[.slice a L.length cap] w fun e w' => e = .returned (.int .i64 0) ∧ Below w.heap.size w w') := by
      intro w h
      have := ppages a cap L w h hL
      rw [hpg] at this
      exact this
    rw [hq] at H16
    clear hq hpg
    go_enter Try.func9, Try.ntmps9
    go_wp2_with fail
    refine (works _).mono ?_
    rintro e w1 ⟨rfl, hb1⟩
    go_wp2_with fail
    refine (H16.out _ (hreg.later hb1)).mono ?_
    rintro e w2 ⟨rfl, hb2⟩
    have hB2 := bel_trans hb1 hb2
    clear hb1 hb2
    go_wp2_with fail
    refine (H20.out _ (hreg.later hB2)).mono ?_
    rintro e w3 ⟨rfl, hb3⟩
    go_wp2
    go_ret
    exact ⟨rfl, bel_trans hB2 hb3⟩
  | true =>
    have hRL := (rt_iff L).1 hq
    have hpg : pgR L = pgs L := by unfold pgR; rw [hq]; rfl
    have H20 : Hid (∀ w, Regs w a cap L → Calls Try.prog 20 #[.slice a L.length cap] w fun e w' => e = .returned (.int .i64 (pgs L)) ∧ Below w.heap.size w w') := by
      intro w h
      have := ppages a cap L w h hL
      rw [hpg] at this
      exact this
    rw [hq] at H16
    clear hq hpg
    have HRL : Hid (RL L) := hRL
    clear hRL
    go_enter Try.func9, Try.ntmps9
    go_wp2_with fail
    refine (works _).mono ?_
    rintro e w1 ⟨rfl, hb1⟩
    go_wp2_with fail
    refine (H16.out _ (hreg.later hb1)).mono ?_
    rintro e w2 ⟨rfl, hb2⟩
    have hB2 := bel_trans hb1 hb2
    have hr2 := hreg.later hB2
    clear hb1 hb2 hreg H16
    go_wp2
    go_loopw [5, 6] (fun s5 s6 wr => ∃ (j : Nat) (n : Int), j ≤ L.length ∧ s6 = .int .i64 j ∧ s5 = .int .i64 n ∧ n = pgs (L.take j) ∧ Regs wr a cap L ∧ Below w.heap.size w wr) (fun _ s6 _ => L.length - (intOf s6).toNat)
    case atStart => exact ⟨0, 0, by omega, rfl, rfl, by simp [pgs], hr2, hB2⟩
    case round =>
      obtain ⟨j, n, hj, rfl, rfl, hn, hr, hb⟩ := hrel
      clear hr2 hB2
      by_cases hjl : j < L.length
      · have hd : decide (j < L.length) = true := by simp; omega
        have hv := HRL.out.vd hjl
        have hpt := pgs_take L j hjl
        have hbd := pgs_bound HRL.out j hj
        have hbeh := fd_behind HRL.out hjl
        have F1 : fnd L L[j].f = some L[j] := by rw [fnd_right HRL.out]; exact fd_mem HRL.out (List.getElem_mem hjl) ⟨Int.le_refl _, hv.2.1⟩
        have F2 : fnd L (L[j].t - 1) = some L[j] := by rw [fnd_right HRL.out]; exact fd_mem HRL.out (List.getElem_mem hjl) ⟨by have := hv.2.1; omega, by omega⟩
        obtain ⟨O, hO⟩ : ∃ O, fnd L L[j].t = O := ⟨_, rfl⟩
        have hO2 : fd L L[j].t = O := by rw [← hO, fnd_right HRL.out]
        rw [← hn] at hpt hbd
        obtain ⟨y, hye⟩ : ∃ y, y = L[j] := ⟨_, rfl⟩
        rw [← hye] at hv hpt hbeh F1 F2 hO hO2
        have HE : Hid (y = L[j]) := hye
        obtain ⟨y3, hy3⟩ : ∃ y3, fV O = y3 := ⟨_, rfl⟩
        obtain ⟨S, hS⟩ : ∃ S, O.isSome = S := ⟨_, rfl⟩
        have HF1 : Hid (∀ w, Regs w a cap L → Calls Try.prog 13 #[.slice a L.length cap, .int .i64 y.f] w fun e w' => e = .returned (.tuple #[rv y, .bool true]) ∧ Below w.heap.size w w') := by
          intro w h
          have := pfind a cap L y.f w h hL
          rw [F1] at this
          exact this
        have HF2 : Hid (∀ w, Regs w a cap L → Calls Try.prog 13 #[.slice a L.length cap, .int .i64 (y.t - 1)] w fun e w' => e = .returned (.tuple #[rv y, .bool true]) ∧ Below w.heap.size w w') := by
          intro w h
          have := pfind a cap L (y.t - 1) w h hL
          rw [F2] at this
          exact this
        have HF3 : Hid (∀ w, Regs w a cap L → Calls Try.prog 13 #[.slice a L.length cap, .int .i64 y.t] w fun e w' => e = .returned (.tuple #[rv y3, .bool S]) ∧ Below w.heap.size w w') := by
          intro w h
          have := pfind a cap L y.t w h hL
          rw [hO] at this
          simp only [fT, hy3, hS] at this
          exact this
        obtain ⟨v1, v2, v3, -⟩ := hv
        obtain ⟨Q, hQ⟩ : ∃ Q, n + y.t = Q := ⟨_, rfl⟩
        obtain ⟨P, hP⟩ : ∃ P, Q - y.f = P := ⟨_, rfl⟩
        have s0 : IntKind.i64.wrap (y.t - 1) = y.t - 1 := by rw [IntKind.wrap_i64]; omega
        have s1 : IntKind.i64.wrap (n + y.t) = Q := by rw [IntKind.wrap_i64]; omega
        have s2 : IntKind.i64.wrap (Q - y.f) = P := by rw [IntKind.wrap_i64]; omega
        have s3 : IntKind.i64.wrap ((j : Int) + 1) = (j : Int) + 1 := by rw [IntKind.wrap_i64]; omega
        have HP : Hid (P = pgs (L.take (j + 1))) := by show _ = _; omega
        have HB : Hid ((∀ hj : j + 1 < L.length, L[j + 1].f = y.t → S = true) ∧ ((∀ hj : j + 1 < L.length, L[j + 1].f ≠ y.t) → S = false)) := by
          rw [hO2] at hbeh
          refine ⟨fun h1 h2 => ?_, fun h1 => ?_⟩
          · rw [← hS, hbeh.1 h1 h2]; rfl
          · rw [← hS, hbeh.2 h1]; rfl
        have e25 := eq25_same y
        clear hn hpt hbd hbeh F1 F2 hO hO2 hye hy3 hS hQ hP
        by_cases hj1 : j + 1 < L.length
        · obtain ⟨z, hz⟩ : ∃ z, z = L[j + 1] := ⟨_, rfl⟩
          have HZ : Hid (z = L[j + 1]) := hz
          have r1 : decide ((j : Int) + 1 < L.length) = true := by simp; omega
          have r3 : decide (j + 1 < L.length) = true := by simp; omega
          by_cases he : z.f = y.t
          · have r2 : (z.f == y.t) = true := by simp; omega
            have hS : S = true := HB.out.1 hj1 (by rw [← hz]; exact he)
            subst hS
            clear HB hz he
            obtain ⟨b, off, rfl, c0, c1, c2, c3, c4, c5⟩ := hr.get hjl
            rw [← HE.out] at c0 c1 c2 c3 c4 c5
            go_wp2_with fail
            refine (HF1.out _ hr).mono ?_
            rintro e w10 ⟨rfl, hb10⟩
            have hB10 := bel_trans hb hb10
            have hr10 := hr.later hb10
            clear c0 c1 c2 c3 c4 c5 hb hr hb10
            obtain ⟨w11, hw11, hy11, hB11, hb11⟩ := boxOn w w10 y hB10
            have hr11 := hr10.later hb11
            have hc := hr11.cells hjl
            rw [← HE.out] at hc
            obtain ⟨c0, c1, c2, c3, c4, c5⟩ := hc
            rw [hw11] at c0 c1 c2 c3 c4 c5
            go_wp2_with fail
            rw [← hw11]
            clear hw11 hb11 hr10 hB10 c0 c1 c2 c3 c4 c5
            refine (HF2.out _ hr11).mono ?_
            rintro e w12 ⟨rfl, hb12⟩
            have hB12 := bel_trans hB11 hb12
            have hr12 := hr11.later hb12
            have hy12 := hy11.later hb12
            clear hB11 hr11 hy11 hb12
            obtain ⟨w13, hw13, hz13, hB13, hb13⟩ := boxOn w w12 y hB12
            go_wp2_with fail
            rw [← hw13]
            have hr13 := hr12.later hb13
            have hy13 := hy12.later hb13
            clear hw13 hb13 hr12 hy12 hB12
            have hc := hr13.cells hjl
            rw [← HE.out] at hc
            obtain ⟨c0, c1, c2, c3, c4, c5⟩ := hc
            obtain ⟨y0, y1, y2, y3, y4, y5⟩ := hy13.six
            obtain ⟨z0, z1, z2, z3, z4, z5⟩ := hz13.six
            have u_c0 := Up.cell c0
            have u_c1 := Up.cell c1
            have u_c2 := Up.cell c2
            have u_c3 := Up.cell c3
            have u_c4 := Up.cell c4
            have u_c5 := Up.cell c5
            have u_y0 := Up.cell y0
            have u_y1 := Up.cell y1
            have u_y2 := Up.cell y2
            have u_y3 := Up.cell y3
            have u_y4 := Up.cell y4
            have u_y5 := Up.cell y5
            have u_z0 := Up.cell z0
            have u_z1 := Up.cell z1
            have u_z2 := Up.cell z2
            have u_z3 := Up.cell z3
            have u_z4 := Up.cell z4
            have u_z5 := Up.cell z5
            have hne := Up.any w13
            refine wp_region_up (by kernel_rfl) (by kernel_rfl) ?_
            repeat (go_big_quiet_step (fail))
            refine wpQuiet_nil ?_
            intro w14 hw'
            obtain ⟨⟨_, hbw⟩, rfl⟩ := hw'
            have hB14 := bel_trans hB13 hbw
            have hr14 := hr13.later hbw
            clear c0 c1 c2 c3 c4 c5 y0 y1 y2 y3 y4 y5 z0 z1 z2 z3 z4 z5 u_c0 u_c1 u_c2 u_c3 u_c4 u_c5 u_y0 u_y1 u_y2 u_y3 u_y4 u_y5 u_z0 u_z1 u_z2 u_z3 u_z4 u_z5 hne hbw hr13 hy13 hz13 hB13
            have hc := hr14.cells hjl
            rw [← HE.out] at hc
            obtain ⟨c0, c1, c2, c3, c4, c5⟩ := hc
            go_wp2_with fail
            refine (HF3.out _ hr14).mono ?_
            rintro e w15 ⟨rfl, hb15⟩
            have hB15 := bel_trans hB14 hb15
            have hr15 := hr14.later hb15
            clear hB14 hr14 hb15 c0 c1 c2 c3 c4 c5
            obtain ⟨w16, hw16, hy16, hB16, hb16⟩ := boxOn w w15 y3 hB15
            go_wp2_with fail
            rw [← hw16]
            have hr16 := hr15.later hb16
            clear hw16 hb16 hr15 hB15
            have hc := hr16.cells hjl
            rw [← HE.out] at hc
            obtain ⟨c0, c1, c2, c3, c4, c5⟩ := hc
            have hd1 := hr16.cells hj1
            rw [← HZ.out] at hd1
            obtain ⟨z0, z1, z2, z3, z4, z5⟩ := hd1
            have u_c0 := Up.cell c0
            have u_c1 := Up.cell c1
            have u_c2 := Up.cell c2
            have u_c3 := Up.cell c3
            have u_c4 := Up.cell c4
            have u_c5 := Up.cell c5
            have u_z0 := Up.cell z0
            have u_z1 := Up.cell z1
            have u_z2 := Up.cell z2
            have u_z3 := Up.cell z3
            have u_z4 := Up.cell z4
            have u_z5 := Up.cell z5
            have hne := Up.any w16
            refine wp_region_up (by kernel_rfl) (by kernel_rfl) ?_
            repeat (go_big_quiet_step (fail))
            refine wpQuiet_nil ?_
            intro w17 hw'
            obtain ⟨⟨_, hbw⟩, rfl⟩ := hw'
            have hB17 := bel_trans hB16 hbw
            have hr17 := hr16.later hbw
            clear c0 c1 c2 c3 c4 c5 z0 z1 z2 z3 z4 z5 u_c0 u_c1 u_c2 u_c3 u_c4 u_c5 u_z0 u_z1 u_z2 u_z3 u_z4 u_z5 hne hbw hr16 hy16 hB16 
            have hc := hr17.cells hjl
            rw [← HE.out] at hc
            obtain ⟨c0, c1, c2, c3, c4, c5⟩ := hc
            go_wp2_with fail
            have u_c0 := Up.cell c0
            have u_c1 := Up.cell c1
            have u_c2 := Up.cell c2
            have u_c3 := Up.cell c3
            have u_c4 := Up.cell c4
            have u_c5 := Up.cell c5
            have hne := Up.any w17
            refine wp_region_up (by kernel_rfl) (by kernel_rfl) ?_
            repeat (go_big_quiet_step (fail))
            refine wpQuiet_nil ?_
            intro w18 hw'
            obtain ⟨⟨_, hbw⟩, rfl⟩ := hw'
            have hB18 := bel_trans hB17 hbw
            have hr18 := hr17.later hbw
            clear c0 c1 c2 c3 c4 c5 u_c0 u_c1 u_c2 u_c3 u_c4 u_c5 hne hbw hr17 hB17
            go_wp2
            exact ⟨⟨j + 1, P, by omega, by go_num, rfl, HP.out, hr18, hB18⟩, by simp [intOf]; omega⟩
          · have r2 : (z.f == y.t) = false := by simp; omega
            have hS : S = false := HB.out.2 (fun _ => by rw [← hz]; exact he)
            subst hS
            clear HB hz he
            obtain ⟨b, off, rfl, c0, c1, c2, c3, c4, c5⟩ := hr.get hjl
            rw [← HE.out] at c0 c1 c2 c3 c4 c5
            go_wp2_with fail
            refine (HF1.out _ hr).mono ?_
            rintro e w10 ⟨rfl, hb10⟩
            have hB10 := bel_trans hb hb10
            have hr10 := hr.later hb10
            clear c0 c1 c2 c3 c4 c5 hb hr hb10
            obtain ⟨w11, hw11, hy11, hB11, hb11⟩ := boxOn w w10 y hB10
            have hr11 := hr10.later hb11
            have hc := hr11.cells hjl
            rw [← HE.out] at hc
            obtain ⟨c0, c1, c2, c3, c4, c5⟩ := hc
            rw [hw11] at c0 c1 c2 c3 c4 c5
            go_wp2_with fail
            rw [← hw11]
            clear hw11 hb11 hr10 hB10 c0 c1 c2 c3 c4 c5
            refine (HF2.out _ hr11).mono ?_
            rintro e w12 ⟨rfl, hb12⟩
            have hB12 := bel_trans hB11 hb12
            have hr12 := hr11.later hb12
            have hy12 := hy11.later hb12
            clear hB11 hr11 hy11 hb12
            obtain ⟨w13, hw13, hz13, hB13, hb13⟩ := boxOn w w12 y hB12
            go_wp2_with fail
            rw [← hw13]
            have hr13 := hr12.later hb13
            have hy13 := hy12.later hb13
            clear hw13 hb13 hr12 hy12 hB12
            have hc := hr13.cells hjl
            rw [← HE.out] at hc
            obtain ⟨c0, c1, c2, c3, c4, c5⟩ := hc
            obtain ⟨y0, y1, y2, y3, y4, y5⟩ := hy13.six
            obtain ⟨z0, z1, z2, z3, z4, z5⟩ := hz13.six
            have u_c0 := Up.cell c0
            have u_c1 := Up.cell c1
            have u_c2 := Up.cell c2
            have u_c3 := Up.cell c3
            have u_c4 := Up.cell c4
            have u_c5 := Up.cell c5
            have u_y0 := Up.cell y0
            have u_y1 := Up.cell y1
            have u_y2 := Up.cell y2
            have u_y3 := Up.cell y3
            have u_y4 := Up.cell y4
            have u_y5 := Up.cell y5
            have u_z0 := Up.cell z0
            have u_z1 := Up.cell z1
            have u_z2 := Up.cell z2
            have u_z3 := Up.cell z3
            have u_z4 := Up.cell z4
            have u_z5 := Up.cell z5
            have hne := Up.any w13
            refine wp_region_up (by kernel_rfl) (by kernel_rfl) ?_
            repeat (go_big_quiet_step (fail))
            refine wpQuiet_nil ?_
            intro w14 hw'
            obtain ⟨⟨_, hbw⟩, rfl⟩ := hw'
            have hB14 := bel_trans hB13 hbw
            have hr14 := hr13.later hbw
            clear c0 c1 c2 c3 c4 c5 y0 y1 y2 y3 y4 y5 z0 z1 z2 z3 z4 z5 u_c0 u_c1 u_c2 u_c3 u_c4 u_c5 u_y0 u_y1 u_y2 u_y3 u_y4 u_y5 u_z0 u_z1 u_z2 u_z3 u_z4 u_z5 hne hbw hr13 hy13 hz13 hB13
            have hc := hr14.cells hjl
            rw [← HE.out] at hc
            obtain ⟨c0, c1, c2, c3, c4, c5⟩ := hc
            go_wp2_with fail
            refine (HF3.out _ hr14).mono ?_
            rintro e w15 ⟨rfl, hb15⟩
            have hB15 := bel_trans hB14 hb15
            have hr15 := hr14.later hb15
            clear hB14 hr14 hb15 c0 c1 c2 c3 c4 c5
            obtain ⟨w16, hw16, hy16, hB16, hb16⟩ := boxOn w w15 y3 hB15
            go_wp2_with fail
            rw [← hw16]
            have hr16 := hr15.later hb16
            clear hw16 hb16 hr15 hB15
            have hc := hr16.cells hjl
            rw [← HE.out] at hc
            obtain ⟨c0, c1, c2, c3, c4, c5⟩ := hc
            have hd1 := hr16.cells hj1
            rw [← HZ.out] at hd1
            obtain ⟨z0, z1, z2, z3, z4, z5⟩ := hd1
            have u_c0 := Up.cell c0
            have u_c1 := Up.cell c1
            have u_c2 := Up.cell c2
            have u_c3 := Up.cell c3
            have u_c4 := Up.cell c4
            have u_c5 := Up.cell c5
            have u_z0 := Up.cell z0
            have u_z1 := Up.cell z1
            have u_z2 := Up.cell z2
            have u_z3 := Up.cell z3
            have u_z4 := Up.cell z4
            have u_z5 := Up.cell z5
            have hne := Up.any w16
            refine wp_region_up (by kernel_rfl) (by kernel_rfl) ?_
            repeat (go_big_quiet_step (fail))
            refine wpQuiet_nil ?_
            intro w17 hw'
            obtain ⟨⟨_, hbw⟩, rfl⟩ := hw'
            have hB17 := bel_trans hB16 hbw
            have hr17 := hr16.later hbw
            clear c0 c1 c2 c3 c4 c5 z0 z1 z2 z3 z4 z5 u_c0 u_c1 u_c2 u_c3 u_c4 u_c5 u_z0 u_z1 u_z2 u_z3 u_z4 u_z5 hne hbw hr16 hy16 hB16 
            have hc := hr17.cells hjl
            rw [← HE.out] at hc
            obtain ⟨c0, c1, c2, c3, c4, c5⟩ := hc
            go_wp2_with fail
            have u_c0 := Up.cell c0
            have u_c1 := Up.cell c1
            have u_c2 := Up.cell c2
            have u_c3 := Up.cell c3
            have u_c4 := Up.cell c4
            have u_c5 := Up.cell c5
            have hne := Up.any w17
            refine wp_region_up (by kernel_rfl) (by kernel_rfl) ?_
            repeat (go_big_quiet_step (fail))
            refine wpQuiet_nil ?_
            intro w18 hw'
            obtain ⟨⟨_, hbw⟩, rfl⟩ := hw'
            have hB18 := bel_trans hB17 hbw
            have hr18 := hr17.later hbw
            clear c0 c1 c2 c3 c4 c5 u_c0 u_c1 u_c2 u_c3 u_c4 u_c5 hne hbw hr17 hB17
            go_wp2
            exact ⟨⟨j + 1, P, by omega, by go_num, rfl, HP.out, hr18, hB18⟩, by simp [intOf]; omega⟩
        · have r1 : decide ((j : Int) + 1 < L.length) = false := by simp; omega
          have r3 : decide (j + 1 < L.length) = false := by simp; omega
          have hS : S = false := HB.out.2 (fun h => absurd h hj1)
          subst hS
          clear HB
          obtain ⟨b, off, rfl, c0, c1, c2, c3, c4, c5⟩ := hr.get hjl
          rw [← HE.out] at c0 c1 c2 c3 c4 c5
          go_wp2_with fail
          refine (HF1.out _ hr).mono ?_
          rintro e w10 ⟨rfl, hb10⟩
          have hB10 := bel_trans hb hb10
          have hr10 := hr.later hb10
          clear c0 c1 c2 c3 c4 c5 hb hr hb10
          obtain ⟨w11, hw11, hy11, hB11, hb11⟩ := boxOn w w10 y hB10
          have hr11 := hr10.later hb11
          have hc := hr11.cells hjl
          rw [← HE.out] at hc
          obtain ⟨c0, c1, c2, c3, c4, c5⟩ := hc
          rw [hw11] at c0 c1 c2 c3 c4 c5
          go_wp2_with fail
          rw [← hw11]
          clear hw11 hb11 hr10 hB10 c0 c1 c2 c3 c4 c5
          refine (HF2.out _ hr11).mono ?_
          rintro e w12 ⟨rfl, hb12⟩
          have hB12 := bel_trans hB11 hb12
          have hr12 := hr11.later hb12
          have hy12 := hy11.later hb12
          clear hB11 hr11 hy11 hb12
          obtain ⟨w13, hw13, hz13, hB13, hb13⟩ := boxOn w w12 y hB12
          go_wp2_with fail
          rw [← hw13]
          have hr13 := hr12.later hb13
          have hy13 := hy12.later hb13
          clear hw13 hb13 hr12 hy12 hB12
          have hc := hr13.cells hjl
          rw [← HE.out] at hc
          obtain ⟨c0, c1, c2, c3, c4, c5⟩ := hc
          obtain ⟨y0, y1, y2, y3, y4, y5⟩ := hy13.six
          obtain ⟨z0, z1, z2, z3, z4, z5⟩ := hz13.six
          have u_c0 := Up.cell c0
          have u_c1 := Up.cell c1
          have u_c2 := Up.cell c2
          have u_c3 := Up.cell c3
          have u_c4 := Up.cell c4
          have u_c5 := Up.cell c5
          have u_y0 := Up.cell y0
          have u_y1 := Up.cell y1
          have u_y2 := Up.cell y2
          have u_y3 := Up.cell y3
          have u_y4 := Up.cell y4
          have u_y5 := Up.cell y5
          have u_z0 := Up.cell z0
          have u_z1 := Up.cell z1
          have u_z2 := Up.cell z2
          have u_z3 := Up.cell z3
          have u_z4 := Up.cell z4
          have u_z5 := Up.cell z5
          have hne := Up.any w13
          refine wp_region_up (by kernel_rfl) (by kernel_rfl) ?_
          repeat (go_big_quiet_step (fail))
          refine wpQuiet_nil ?_
          intro w14 hw'
          obtain ⟨⟨_, hbw⟩, rfl⟩ := hw'
          have hB14 := bel_trans hB13 hbw
          have hr14 := hr13.later hbw
          clear c0 c1 c2 c3 c4 c5 y0 y1 y2 y3 y4 y5 z0 z1 z2 z3 z4 z5 u_c0 u_c1 u_c2 u_c3 u_c4 u_c5 u_y0 u_y1 u_y2 u_y3 u_y4 u_y5 u_z0 u_z1 u_z2 u_z3 u_z4 u_z5 hne hbw hr13 hy13 hz13 hB13
          have hc := hr14.cells hjl
          rw [← HE.out] at hc
          obtain ⟨c0, c1, c2, c3, c4, c5⟩ := hc
          go_wp2_with fail
          refine (HF3.out _ hr14).mono ?_
          rintro e w15 ⟨rfl, hb15⟩
          have hB15 := bel_trans hB14 hb15
          have hr15 := hr14.later hb15
          clear hB14 hr14 hb15 c0 c1 c2 c3 c4 c5
          obtain ⟨w16, hw16, hy16, hB16, hb16⟩ := boxOn w w15 y3 hB15
          go_wp2_with fail
          rw [← hw16]
          have hr16 := hr15.later hb16
          clear hw16 hb16 hr15 hB15
          have hc := hr16.cells hjl
          rw [← HE.out] at hc
          obtain ⟨c0, c1, c2, c3, c4, c5⟩ := hc
          have u_c0 := Up.cell c0
          have u_c1 := Up.cell c1
          have u_c2 := Up.cell c2
          have u_c3 := Up.cell c3
          have u_c4 := Up.cell c4
          have u_c5 := Up.cell c5
          have hne := Up.any w16
          refine wp_region_up (by kernel_rfl) (by kernel_rfl) ?_
          repeat (go_big_quiet_step (fail))
          refine wpQuiet_nil ?_
          intro w17 hw'
          obtain ⟨⟨_, hbw⟩, rfl⟩ := hw'
          have hB17 := bel_trans hB16 hbw
          have hr17 := hr16.later hbw
          clear c0 c1 c2 c3 c4 c5 u_c0 u_c1 u_c2 u_c3 u_c4 u_c5 hne hbw hr16 hy16 hB16 
          have hc := hr17.cells hjl
          rw [← HE.out] at hc
          obtain ⟨c0, c1, c2, c3, c4, c5⟩ := hc
          go_wp2_with fail
          have u_c0 := Up.cell c0
          have u_c1 := Up.cell c1
          have u_c2 := Up.cell c2
          have u_c3 := Up.cell c3
          have u_c4 := Up.cell c4
          have u_c5 := Up.cell c5
          have hne := Up.any w17
          refine wp_region_up (by kernel_rfl) (by kernel_rfl) ?_
          repeat (go_big_quiet_step (fail))
          refine wpQuiet_nil ?_
          intro w18 hw'
          obtain ⟨⟨_, hbw⟩, rfl⟩ := hw'
          have hB18 := bel_trans hB17 hbw
          have hr18 := hr17.later hbw
          clear c0 c1 c2 c3 c4 c5 u_c0 u_c1 u_c2 u_c3 u_c4 u_c5 hne hbw hr17 hB17
          go_wp2
          exact ⟨⟨j + 1, P, by omega, by go_num, rfl, HP.out, hr18, hB18⟩, by simp [intOf]; omega⟩
      · have hd : decide (j < L.length) = false := by simp; omega
        have HN : Hid (n = pgs L) := by show _ = _; rw [hn, List.take_of_length_le (by omega)]
        clear hn
        obtain ⟨G, hG⟩ : ∃ G, pgs L = G := ⟨_, rfl⟩
        rw [hG] at H20 HN
        have hnG := HN.out
        subst hnG
        have qG : (n == n) = true := by simp
        clear hG HN HRL
        go_wp2_with fail
        refine (H20.out _ hr).mono ?_
        rintro e w3 ⟨rfl, hb3⟩
        go_wp2
        go_ret
        exact ⟨rfl, bel_trans hb hb3⟩
end Go.Proofs.Ytagobeoabkbhaaa
