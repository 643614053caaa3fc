/-
  The law CounterLimits walked.
-/
import Derived.Test.YtpageadhmgoddaaActs
namespace Go.Proofs.Ytpageadhmgoddaa
open Go.RowKit

theorem Ct.drewN {w0 w : World} {N c : Nat} {S : Cs} (h : Ct w0 N w c S) (n : Nat) : Ct w0 N (w.drewN n) c S := ⟨⟨h.is.row.drewN n, h.is.lo, h.is.ok⟩, below_drawn h.bel n⟩
theorem Ct.ty {C : TypeId → Bool} {w0 w w' : World} {N c : Nat} {S : Cs} (h : Ct w0 N w c S) (hb : Below w0.heap.size w w') (ht : Ty C w w') (h1 : C 49 = false) : Ct w0 N w' c S := ⟨h.is.ty ht h1, h.bel.trans hb⟩

/-- What is used more by an act is not above its limit. -/
theorem limits_math {N : Nat} {S : Cs} (K : Int) (L : List Int) (G X : Int) (h : OkC N S) : OkC (N + 1) (doA S K L G X) ∧ ∀ g, (doA S K L G X).u g ≤ S.u g ∨ (doA S K L G X).u g ≤ (doA S K L G X).l g := by
  by_cases q0 : K.tmod 3 = 0
  · rw [doA_0 _ _ _ _ q0]
    refine ⟨ok_try h, fun g => ?_⟩
    cases hk : okC L X with
    | false =>
      rw [(try_bad (S := S) hk).1]
      exact Or.inl (Int.le_refl _)
    | true =>
      cases hf : L.find? (over S X) with
      | some x =>
        rw [(try_fail hk hf).1]
        exact Or.inl (Int.le_refl _)
      | none =>
        rw [(try_ok hk hf).1]
        have hn := (okC_parts hk).1
        simp only [growC]
        by_cases hm : g ∈ L
        · have := find_none hf g hm
          simp only [over, Bool.and_eq_false_iff, decide_eq_false_iff_not] at this
          rw [if_pos hm]
          omega
        · rw [if_neg hm]
          exact Or.inl (Int.le_refl _)
  · by_cases q1 : K.tmod 3 = 1
    · rw [doA_1 _ _ _ _ q1]
      refine ⟨(ok_give h).mono (by omega), fun g => Or.inl ?_⟩
      cases hk : okC L X with
      | false => rw [(give_bad (S := S) hk).1]; exact Int.le_refl _
      | true =>
        cases hf : L.find? (lack S X) with
        | some x => rw [(give_fail hk hf).1]; exact Int.le_refl _
        | none =>
          rw [(give_ok hk hf).1]
          have hn := (okC_parts hk).1
          simp only [shrC]
          split <;> omega
    · by_cases q2 : K.tmod 3 = 2
      · rw [doA_2 _ _ _ _ q2]
        refine ⟨(ok_set h).mono (by omega), fun g => Or.inl ?_⟩
        unfold setC
        split <;> exact Int.le_refl _
      · rw [doA_no _ _ _ _ q0 q1 q2]
        exact ⟨h.mono (by omega), fun g => Or.inl (Int.le_refl _)⟩

theorem limits_out (a : Option Addr) (cap : Nat) (l : List Ac) (w : World) (hc : ActsAt w a l) (h : ov l = true) :
    Calls Try.prog 5 #[.slice a l.length cap] w fun e w' => e = .returned (.bool true) ∧ Below w.heap.size w w' := by
  have HO : Hid (∀ W, Below w.heap.size w W → Calls Try.prog 10 #[.slice a l.length cap] W fun e w' => e = .returned (.bool (ov l)) ∧ w' = W) := fun W h => over_any a cap l W (hc.below h)
  clear hc
  rw [h] at HO
  clear h
  go_enter Try.func5, Try.ntmps5
  go_wp2_with fail
  refine (works_any _).mono ?_
  rintro e w1 ⟨rfl, hb⟩
  go_wp2_with fail
  refine (HO.out _ hb).mono ?_
  rintro e w2 ⟨rfl, rfl⟩
  go_wp2_with fail
  go_ret
  exact ⟨rfl, hb⟩

set_option maxRecDepth 100000 in
set_option maxHeartbeats 8000000 in
theorem limits_in (a : Option Addr) (cap : Nat) (l : List Ac) (w : World) (hc : ActsAt w a l) (hov : ov l = false) :
    Calls Try.prog 5 #[.slice a l.length cap] w fun e w' => e = .returned (.bool true) ∧ Below w.heap.size w w' := by
  have HO : Hid (∀ W, Below w.heap.size w W → Calls Try.prog 10 #[.slice a l.length cap] W fun e w' => e = .returned (.bool false) ∧ w' = W) := fun W h => by
    have := over_any a cap l W (hc.below h)
    rw [hov] at this
    exact this
  have hl := (ov_no hov).1
  have HS : Hid (∀ i (hi : i < l.length), l[i].l.length ≤ 80) := (ov_no hov).2
  have HC : Hid (ActsAt w a l) := hc
  clear hc hov
  go_enter Try.func5, Try.ntmps5
  go_wp2_with fail
  refine (works_any _).mono ?_
  rintro e w1 ⟨rfl, hb⟩
  go_wp2_with fail
  refine (HO.out _ hb).mono ?_
  rintro e w2 ⟨rfl, rfl⟩
  go_wp2_with fail
  refine (newT hb).mono ?_
  rintro e w3 ⟨c, rfl, h3, -⟩
  clear hb HO
  go_wp2_with fail
  go_loopw [5] (fun s5 wr => ∃ (i : Nat) (S : Cs), i ≤ l.length ∧ s5 = .int .i64 i ∧ Ct w i wr c S) (fun s5 _ => l.length - (intOf s5).toNat)
  case atStart => exact ⟨0, _, by omega, rfl, h3⟩
  case round =>
    clear h3
    obtain ⟨i, S, hi, rfl, h5⟩ := hrel
    by_cases hlt : i < l.length
    · have hil : decide ((i : Int) < (l.length : Int)) = true := by simp; omega
      go_wp2_with fail
      go_loopw [6, 7] (fun s6 s7 wq => ∃ j : Nat, j ≤ 64 ∧ s7 = .int .i64 j ∧ wq.ownsRow w.heap.size 3 1 s6 (rw64 S.u j).length ((rw64 S.u j).map iv) ∧ Ct w i wq c S) (fun _ s7 _ => 64 - (intOf s7).toNat)
      case atStart => exact ⟨0, by omega, rfl, World.ownsRow_nil _ _ _ _, h5⟩
      case round =>
        clear h5
        obtain ⟨j, hj, rfl, hr1, h5⟩ := hrel
        by_cases hjl : j < 64
        · have hjd : decide ((j : Int) < 64) = true := by simp; omega
          obtain ⟨x, hx⟩ : ∃ x, x = S.u j := ⟨_, rfl⟩
          have T1 : Hid (rw64 S.u (j + 1) = rw64 S.u j ++ [x]) := by rw [hx]; exact rw64_succ _ _
          have G1 : Hid (∀ W, Ct w i W c S → Calls Try.prog 19 #[.pointer (some ⟨c, 0, none⟩), .int .i64 j] W fun e w' => e = .returned (.int .i64 x) ∧ Ct w i w' c S ∧ Below W.heap.size W w') := fun W h => by rw [hx]; exact useT (j : Int) h
          have hl1 : (rw64 S.u j).length ≤ 1000000 := by rw [rw64_len]; omega
          obtain ⟨R1, hR1⟩ : ∃ R, R = rw64 S.u j := ⟨_, rfl⟩
          rw [← hR1] at T1 hl1 hr1
          clear hx hR1 hil hlt
          go_wp2_with fail
          refine (G1.out _ h5).mono ?_
          rintro e w5 ⟨rfl, h7, hb7⟩
          have hr1' := own_below hr1 hb7
          have hB7 := h7.bel.size
          clear h5 hr1 hb7 G1
          go_wp2_with (at_builtin; refine app_up w.heap.size R1 _ rfl _ _ rfl _ rfl hr1' x rfl hl1 hB7 ?_; intro v' w8 hown8 hb8 hty8 hg8 hat8)
          refine ⟨⟨j + 1, by omega, by go_num, ?_, h7.ty hb8 hty8 rfl⟩, by simp [intOf]; omega⟩
          rw [T1.out]; exact hown8
        · obtain rfl : j = 64 := by omega
          have hjd : decide (((64 : Nat) : Int) < 64) = false := by simp
          obtain ⟨g1, cp1, rfl, -⟩ := own_cell hr1
          clear hjl hj
          obtain ⟨b, off, rfl, hcell⟩ := HC.out.told hlt
          have hIn := HC.out.ints hlt
          have hS := HS.out i hlt
          obtain ⟨k0, k1, k2, k3⟩ := hcell wr h5.bel
          obtain ⟨K, hK⟩ : ∃ K, K = l[i].k := ⟨_, rfl⟩
          obtain ⟨A, hA⟩ : ∃ A, A = l[i].a := ⟨_, rfl⟩
          obtain ⟨M, hM⟩ : ∃ M, M = l[i].l := ⟨_, rfl⟩
          obtain ⟨C, hC⟩ : ∃ C, C = l[i].cap := ⟨_, rfl⟩
          obtain ⟨G, hG⟩ : ∃ C, C = l[i].g := ⟨_, rfl⟩
          obtain ⟨X, hX⟩ : ∃ C, C = l[i].n := ⟨_, rfl⟩
          simp only [← hK, ← hA, ← hM, ← hC, ← hG, ← hX] at hcell k0 k1 k2 k3 hIn hS
          have HCELL : Hid (∀ W, Below w.heap.size w W → W.cell? ⟨b, off + i * 4, none⟩ = some (.int .i64 K) ∧ W.cell? ⟨b, off + i * 4 + 1, none⟩ = some (.slice A M.length C) ∧ W.cell? ⟨b, off + i * 4 + 2, none⟩ = some (.int .i64 G) ∧ W.cell? ⟨b, off + i * 4 + 3, none⟩ = some (.int .i64 X)) := hcell
          have HIN : Hid (∀ W, Below w.heap.size w W → Stay w.heap.size W A M) := fun W h => Stay.came hIn h
          clear hcell hIn hK hA hM hC hG hX
          clear HC HS hil
          go_upto_block 4 with fail
          go_cut [5] (fun s5 wx => s5 = .int .i64 i ∧ Ct w (i + 1) wx c (doA S K M G X) ∧ wx.ownsRow w.heap.size 3 1 (.slice (some ⟨g1, 0, none⟩) 64 cp1) (rw64 S.u 64).length ((rw64 S.u 64).map iv))
          case first =>
            by_cases q0 : K.tmod 3 = 0
            · have z0 : (K.tmod 3 == 0) = true := by simpa using q0
              have H1 : Hid (∀ m, Calls Try.prog 13 #[.pointer (some ⟨c, 0, none⟩), .slice A M.length C, .int .i64 X] (wr.drewN m) fun e w' => e = .returned (.tuple #[.int .i64 (tryN S M X), .int .i64 (tryE S M X)]) ∧ Ct w (i + 1) w' c (doA S K M G X) ∧ w'.ownsRow w.heap.size 3 1 (.slice (some ⟨g1, 0, none⟩) 64 cp1) (rw64 S.u 64).length ((rw64 S.u 64).map iv)) := fun m => (tryT X (h5.drewN m) (HIN.out _ (h5.drewN m).bel) (by omega) (by omega)).mono fun _ _ ⟨g1, g2, g3, _⟩ => ⟨g1, by rw [doA_0 _ _ _ _ q0]; exact g2, own_ty (w := wr.drewN m) hr1 g3 rfl⟩
              clear hS HIN h5 q0 hr1
              go_wp2_with fail
              go_region_with (go_at_call 13; refine (H1.out 1).mono ?_; rintro e w5 ⟨rfl, h6, hr6⟩)
              all_goals
                go_wp2_with fail
                go_meet
                exact ⟨rfl, h6, hr6⟩
            · have z0 : (K.tmod 3 == 0) = false := by simpa using q0
              by_cases q1 : K.tmod 3 = 1
              · have z1 : (K.tmod 3 == 1) = true := by simpa using q1
                have H1 : Hid (∀ m, Calls Try.prog 15 #[.pointer (some ⟨c, 0, none⟩), .slice A M.length C, .int .i64 X] (wr.drewN m) fun e w' => e = .returned (.int .i64 (giveE S M X)) ∧ Ct w (i + 1) w' c (doA S K M G X) ∧ w'.ownsRow w.heap.size 3 1 (.slice (some ⟨g1, 0, none⟩) 64 cp1) (rw64 S.u 64).length ((rw64 S.u 64).map iv)) := fun m => (giveT X (h5.drewN m) (HIN.out _ (h5.drewN m).bel) (by omega)).mono fun _ _ ⟨g1, g2, g3, _⟩ => ⟨g1, by rw [doA_1 _ _ _ _ q1]; exact g2.more (by omega), own_ty (w := wr.drewN m) hr1 g3 rfl⟩
                clear hS HIN h5 q0 q1 hr1
                go_wp2_with fail
                go_region_with (go_at_call 15; refine (H1.out 1).mono ?_; rintro e w5 ⟨rfl, h6, hr6⟩)
                all_goals
                  go_wp2_with fail
                  go_meet
                  exact ⟨rfl, h6, hr6⟩
              · have z1 : (K.tmod 3 == 1) = false := by simpa using q1
                by_cases q2 : K.tmod 3 = 2
                · have z2 : (K.tmod 3 == 2) = true := by simpa using q2
                  have H1 : Hid (∀ m, Calls Try.prog 17 #[.pointer (some ⟨c, 0, none⟩), .int .i64 G, .int .i64 X] (wr.drewN m) fun e w' => e = .returned (.int .i64 (setE G X)) ∧ Ct w (i + 1) w' c (doA S K M G X) ∧ w'.ownsRow w.heap.size 3 1 (.slice (some ⟨g1, 0, none⟩) 64 cp1) (rw64 S.u 64).length ((rw64 S.u 64).map iv)) := fun m => (setT G X (h5.drewN m)).mono fun _ _ ⟨g1, g2, g3, _⟩ => ⟨g1, by rw [doA_2 _ _ _ _ q2]; exact g2.more (by omega), own_ty (w := wr.drewN m) hr1 g3 rfl⟩
                  clear hS HIN h5 q0 q1 q2 hr1
                  go_wp2_with fail
                  go_region_with (go_at_call 17; refine (H1.out 1).mono ?_; rintro e w5 ⟨rfl, h6, hr6⟩)
                  all_goals
                    go_wp2_with fail
                    go_meet
                    exact ⟨rfl, h6, hr6⟩
                · have z2 : (K.tmod 3 == 2) = false := by simpa using q2
                  have hd := doA_no S M G X q0 q1 q2
                  clear hS HIN q0 q1 q2 HCELL
                  go_wp2_with fail
                  go_meet
                  exact ⟨rfl, by rw [hd]; exact h5.more (by omega), hr1⟩
          case rest =>
            obtain ⟨hso, hmath⟩ := limits_math K M G X h5.is.ok
            clear h5 hr1 HIN HCELL k0 k1 k2 k3 hS
            obtain ⟨rfl, h6, hr6⟩ := hcut
            obtain ⟨S1, hS1⟩ : ∃ S1, S1 = doA S K M G X := ⟨_, rfl⟩
            rw [← hS1] at hso hmath h6
            obtain ⟨g', cp', e', hc1⟩ := own_cell hr6
            injection e' with e1 e2 e3
            injection e1 with e1
            injection e1 with e1
            subst e1
            have HM : Hid ((∀ g, S1.u g ≤ S.u g ∨ S1.u g ≤ S1.l g) ∧ (∀ g, 0 ≤ S1.u g) ∧ (∀ g, S1.u g ≤ S1.p g)) := ⟨hmath, fun g => (hso.u g).1, fun g => (hso.p g).1⟩
            have HC1 : Hid (∀ W, Below wc.heap.size wc W → ∀ i, i < 64 → W.cell? ⟨g1, i, none⟩ = some (.int .i64 (S.u i))) := fun W h i hi => cell_later h (hc1 i hi)
            clear hS1 hso hmath hr6 hc1 e2 e3
            go_wp2_with fail
            go_loopw [8] (fun s8 wq => ∃ j : Nat, j ≤ 64 ∧ s8 = .int .i64 j ∧ Ct w (i + 1) wq c S1 ∧ Below wc.heap.size wc wq) (fun s8 _ => 64 - (intOf s8).toNat)
            case atStart => exact ⟨0, by omega, rfl, h6, Below.refl _ _⟩
            case round =>
              clear h6
              obtain ⟨j, hj, rfl, h9, hb9⟩ := hrel
              by_cases hjl : j < 64
              · have hjd : decide ((j : Int) < 64) = true := by simp; omega
                have c1 := HC1.out _ hb9 j hjl
                have m1 := HM.out.1 j
                have m2 := HM.out.2.1 j
                have m3 := HM.out.2.2 j
                obtain ⟨u, hu⟩ : ∃ x, x = S1.u j := ⟨_, rfl⟩
                obtain ⟨u0, hu0⟩ : ∃ x, x = S.u j := ⟨_, rfl⟩
                obtain ⟨lm, hlm⟩ : ∃ x, x = S1.l j := ⟨_, rfl⟩
                obtain ⟨p, hp⟩ : ∃ x, x = S1.p j := ⟨_, rfl⟩
                have G1 : Hid (∀ W, Ct w (i + 1) W c S1 → Calls Try.prog 19 #[.pointer (some ⟨c, 0, none⟩), .int .i64 j] W fun e w' => e = .returned (.int .i64 u) ∧ Below W.heap.size W w') := fun W h => by rw [hu]; exact (useT (j : Int) h).mono fun _ _ ⟨g1, _, g3⟩ => ⟨g1, g3⟩
                have G2 : Hid (∀ W, Ct w (i + 1) W c S1 → Calls Try.prog 20 #[.pointer (some ⟨c, 0, none⟩), .int .i64 j] W fun e w' => e = .returned (.int .i64 lm) ∧ Below W.heap.size W w') := fun W h => by rw [hlm]; exact (limT (j : Int) h).mono fun _ _ ⟨g1, _, g3⟩ => ⟨g1, g3⟩
                have G3 : Hid (∀ W, Ct w (i + 1) W c S1 → Calls Try.prog 22 #[.pointer (some ⟨c, 0, none⟩), .int .i64 j] W fun e w' => e = .returned (.int .i64 p) ∧ Below W.heap.size W w') := fun W h => by rw [hp]; exact (peakT (j : Int) h).mono fun _ _ ⟨g1, _, g3⟩ => ⟨g1, g3⟩
                rw [← hu0] at c1
                rw [← hu, ← hu0, ← hlm] at m1
                rw [← hu] at m2
                rw [← hu, ← hp] at m3
                clear hu hu0 hlm hp HC1 HM
                have z1 : decide (u < 0) = false := by simp; omega
                have z2 : decide (p < u) = false := by simp; omega
                have k1 := Up.cell c1
                have hne := Up.any wr
                by_cases hw : u0 < u
                · have z3 : decide (u0 < u) = true := by simp; omega
                  have z4 : decide (lm < u) = false := by simp; omega
                  clear m1 m2 m3 hw
                  go_wp2_with fail
                  refine wp_region_up (by kernel_rfl) (by kernel_rfl) ?_
                  repeat (go_big_quiet_step (first | (go_at_call 19; refine Up.call (G1.out _ (h9.up _))) | (go_at_call 20; refine Up.call (G2.out _ (h9.up _))) | (go_at_call 22; refine Up.call (G3.out _ (h9.up _)))))
                  refine wpQuiet_nil ?_
                  intro w17 hw'
                  obtain ⟨⟨_, hbw⟩, rfl⟩ := hw'
                  have h10 := h9.grow hbw
                  have hb10 := bel_trans hb9 hbw (Nat.le_refl _)
                  clear c1 k1 hne G1 G2 G3 h9 hbw hb9
                  go_wp2_with fail
                  exact ⟨⟨j + 1, by omega, by go_num, h10, hb10⟩, by simp [intOf]; omega⟩
                · have z3 : decide (u0 < u) = false := by simp; omega
                  clear m1 m2 m3 hw
                  go_wp2_with fail
                  refine wp_region_up (by kernel_rfl) (by kernel_rfl) ?_
                  repeat (go_big_quiet_step (first | (go_at_call 19; refine Up.call (G1.out _ (h9.up _))) | (go_at_call 20; refine Up.call (G2.out _ (h9.up _))) | (go_at_call 22; refine Up.call (G3.out _ (h9.up _)))))
                  refine wpQuiet_nil ?_
                  intro w17 hw'
                  obtain ⟨⟨_, hbw⟩, rfl⟩ := hw'
                  have h10 := h9.grow hbw
                  have hb10 := bel_trans hb9 hbw (Nat.le_refl _)
                  clear c1 k1 hne G1 G2 G3 h9 hbw hb9
                  go_wp2_with fail
                  exact ⟨⟨j + 1, by omega, by go_num, h10, hb10⟩, by simp [intOf]; omega⟩
              · obtain rfl : j = 64 := by omega
                have hjd : decide (((64 : Nat) : Int) < 64) = false := by simp
                clear HC1 HM
                go_wp2_with fail
                exact ⟨⟨i + 1, _, by omega, by go_num, h9⟩, by simp [intOf]; omega⟩
    · obtain rfl : i = l.length := by omega
      have hil : decide ((l.length : Int) < (l.length : Int)) = false := by simp
      clear HC HS
      go_wp2_with fail
      go_ret
      exact ⟨rfl, h5.bel⟩

theorem limits_walk (a : Option Addr) (cap : Nat) (l : List Ac) (w : World) (hc : ActsAt w a l) :
    Calls Try.prog 5 #[.slice a l.length cap] w fun e w' => e = .returned (.bool true) ∧ Below w.heap.size w w' := by
  cases hov : ov l with
  | true => exact limits_out a cap l w hc hov
  | false => exact limits_in a cap l w hc hov
end Go.Proofs.Ytpageadhmgoddaa
