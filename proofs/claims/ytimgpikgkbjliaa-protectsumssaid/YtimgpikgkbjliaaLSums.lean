/-
  ProtectSums, walked.
-/
import Derived.Test.YtimgpikgkbjliaaWorks
import Derived.Test.YtimgpikgkbjliaaOpen
import Derived.Test.YtimgpikgkbjliaaP10
namespace Go.Proofs.Ytimgpikgkbjliaa
open Go.RowKit

/-- What those just below one are protected by, of the first k. -/
def under (l : List Nd) (t : Int) (i k : Nat) : Int := sumN (fun k => if par l k = i then eff l t k else 0) k
theorem under_bd {l : List Nd} (h : Ok l) (t : Int) (i : Nat) {k : Nat} (hk : k ≤ l.length) : 0 ≤ under l t i k ∧ under l t i k ≤ k * 1099511627776 := by
  unfold under
  induction k with
  | zero => simp [sumN]
  | succ k ih =>
    simp only [sumN]
    have := ih (by omega)
    have := eff_lo h t (i := k) (by omega)
    have := low_le h k
    split <;> omega
theorem under_ok {l : List Nd} (h : Ok l) {t : Int} {i : Nat} (hi : i < l.length) (hne : (i : Int) ≠ t) (hab : blw l i t = false) : under l t i l.length ≤ eff l t i := by
  refine eff_sum h hi hne fun k hk hp => ?_
  intro e
  rw [← e, blw_up h hk, hp, blw_self (by omega)] at hab
  · cases hab
  · intro e2
    have := par_lo h hk
    omega

set_option maxRecDepth 100000 in
set_option maxHeartbeats 8000000 in
theorem sums_walk (a : Option Addr) (cap : Nat) (G : List Nd) (t : Int) (w : World) (h : ListIn w a cap G) :
    Calls Try.prog 5 #[.slice a G.length cap, .int .i64 t] w fun e w' => e = .returned (.bool true) ∧ Below w.heap.size w w' := by
  obtain ⟨hn, hle⟩ := h
  have HW := (show Hid (∀ w, Calls Try.prog 9 #[] w fun e w' => e = .returned (.bool true) ∧ Below w.heap.size w w') from works)
  by_cases h70 : 70 < G.length
  · have hd : decide (70 < G.length) = true := by simpa using h70
    go_enter Try.func5, Try.ntmps5
    go_wp2_with fail
    refine (HW.out _).mono ?_
    rintro e w1 ⟨rfl, hb1⟩
    go_wp2
    go_ret
    exact ⟨rfl, hb1⟩
  have hd70 : decide (70 < G.length) = false := by simpa using h70
  have HG : Hid (∀ w', Below w.heap.size w w' → Nds w' a cap G) := fun w' hb => hn.later hb
  have HE : Hid (∀ w', Nds w' a cap G → Calls Try.prog 11 #[.slice a G.length cap, .int .i64 t] w' fun e w'' => ∃ a' c', e = .returned (.slice a' (effL G t).length c') ∧ Ints w'' a' (effL G t) ∧ Below w'.heap.size w' w'') := fun w' h => peff a cap G t w' h (by omega)
  have HV : Hid (∀ w', Nds w' a cap G → Calls Try.prog 14 #[.slice a G.length cap] w' fun e w'' => e = .returned (.bool (vd G)) ∧ Below w'.heap.size w' w'') := fun w' h => pvalid a cap G w' h (by omega)
  cases hv : vd G with
  | false =>
    have e0 : effL G t = [] := by unfold effL; rw [hv]; rfl
    rw [e0] at HE
    rw [hv] at HV
    clear hv e0
    go_enter Try.func5, Try.ntmps5
    go_wp2_with fail
    refine (HW.out _).mono ?_
    rintro e w1 ⟨rfl, hb1⟩
    go_wp2_with fail
    refine (HE.out _ (HG.out _ hb1)).mono ?_
    rintro e w2 ⟨a2, c2, rfl, -, hb2⟩
    have hB2 := bel_trans hb1 hb2
    go_wp2_with fail
    refine (HV.out _ (HG.out _ hB2)).mono ?_
    rintro e w3 ⟨rfl, hb3⟩
    go_wp2
    go_ret
    exact ⟨rfl, bel_trans hB2 hb3⟩
  | true =>
    rw [hv] at HV
    by_cases ht0 : t < 0
    · have d1 : decide (t < 0) = true := by simpa using ht0
      have e0 : effL G t = [] := by unfold effL isPlc; simp; intros; omega
      rw [e0] at HE
      clear hv e0
      go_enter Try.func5, Try.ntmps5
      go_wp2_with fail
      refine (HW.out _).mono ?_
      rintro e w1 ⟨rfl, hb1⟩
      go_wp2_with fail
      refine (HE.out _ (HG.out _ hb1)).mono ?_
      rintro e w2 ⟨a2, c2, rfl, -, hb2⟩
      have hB2 := bel_trans hb1 hb2
      go_wp2_with fail
      refine (HV.out _ (HG.out _ hB2)).mono ?_
      rintro e w3 ⟨rfl, hb3⟩
      go_wp2
      go_ret
      exact ⟨rfl, bel_trans hB2 hb3⟩
    have d1 : decide (t < 0) = false := by simpa using ht0
    by_cases ht1 : (G.length : Int) ≤ t
    · have d2 : decide ((G.length : Int) ≤ t) = true := by simpa using ht1
      have e0 : effL G t = [] := by unfold effL isPlc; simp; intros; omega
      rw [e0] at HE
      clear hv e0
      go_enter Try.func5, Try.ntmps5
      go_wp2_with fail
      refine (HW.out _).mono ?_
      rintro e w1 ⟨rfl, hb1⟩
      go_wp2_with fail
      refine (HE.out _ (HG.out _ hb1)).mono ?_
      rintro e w2 ⟨a2, c2, rfl, -, hb2⟩
      have hB2 := bel_trans hb1 hb2
      go_wp2_with fail
      refine (HV.out _ (HG.out _ hB2)).mono ?_
      rintro e w3 ⟨rfl, hb3⟩
      go_wp2
      go_ret
      exact ⟨rfl, bel_trans hB2 hb3⟩
    have d2 : decide ((G.length : Int) ≤ t) = false := by simpa using ht1
    have hok := ok_of hv
    obtain ⟨T, rfl⟩ := Int.eq_ofNat_of_zero_le (show 0 ≤ t by omega)
    have hT : T < G.length := by omega
    have d2n : decide (G.length ≤ T) = false := by simp; omega
    have d70 : decide (70 < G.length) = false := by simpa using h70
    clear d1 d2 hd70
    have d1 : decide ((T : Int) < 0) = false := by simp
    obtain ⟨E, hEe⟩ : ∃ E, E = efN G T G.length := ⟨_, rfl⟩
    have e0 : effL G T = E := by unfold effL isPlc; rw [hv, hEe]; simp [hT]
    have hEl : E.length = G.length := by rw [hEe, efN_len]
    rw [e0] at HE
    have HE2 : Hid (∀ w', Nds w' a cap G → Calls Try.prog 11 #[.slice a G.length cap, .int .i64 T] w' fun e w'' => ∃ a' c', e = .returned (.slice a' G.length c') ∧ Ints w'' a' E ∧ Below w'.heap.size w' w'') := by
      intro w' h
      have := HE.out w' h
      rwa [hEl] at this
    have HAt : Hid (∀ i, i < G.length → at0 E i = eff G T i) := by
      intro i hi
      rw [hEe]
      exact eff_get G T hi
    have HI : Hid (∀ W ae i, Ints W ae E → i < G.length → ∃ be oe, ae = some ⟨be, oe, none⟩ ∧ W.cell? ⟨be, oe + i, none⟩ = some (.int .i64 (eff G T i))) := by
      intro W ae i hi hl
      obtain ⟨be, oe, h1, h2⟩ := hi.at' i (by omega)
      exact ⟨be, oe, h1, by rw [← HAt.out i hl]; exact h2⟩
    have HA : Hid (∀ (W : World) (g : Nat), Nds W a cap G → Calls Try.prog 20 #[.slice a G.length cap, .int .i64 g, .int .i64 T] W fun e w'' => e = .returned (.bool (blw G g T)) ∧ w'' = W) := fun W g h => pabove a cap G g T W h hok hT
    clear hEe e0 hEl HE hv hn HAt
    go_enter Try.func5, Try.ntmps5
    go_wp2_with fail
    refine (HW.out _).mono ?_
    rintro e w1 ⟨rfl, hb1⟩
    go_wp2_with fail
    refine (HE2.out _ (HG.out _ hb1)).mono ?_
    rintro e w2 ⟨ae, ce, rfl, hi2, hb2⟩
    have hB2 := bel_trans hb1 hb2
    go_wp2_with fail
    refine (HV.out _ (HG.out _ hB2)).mono ?_
    rintro e w3 ⟨rfl, hb3⟩
    have hB3 := bel_trans hB2 hb3
    have hi3 := hi2.later hb3
    obtain ⟨be, oe, rfl, c0⟩ := HI.out _ _ T hi3 hT
    rw [eff_none G (.inl rfl)] at c0
    clear hb1 hb2 hi2 hB2 hb3 HE2 HV HW
    go_wp2
    go_loopw [7] (fun s7 wr => ∃ j : Nat, j ≤ G.length ∧ s7 = .int .i64 j ∧ Ints wr (some ⟨be, oe, none⟩) E ∧ Below w.heap.size w wr) (fun s7 _ => G.length - (intOf s7).toNat)
    case atStart => exact ⟨0, by omega, rfl, hi3, hB3⟩
    case round =>
      clear hi3 hB3 c0
      obtain ⟨j, hj, rfl, hi, hB⟩ := hrel
      have hg := HG.out _ hB
      by_cases hjl : j < G.length
      · obtain ⟨b, off, rfl, g0, g1, g2⟩ := hg.get hjl
        obtain ⟨be', oe', e', k0⟩ := HI.out _ _ j hi hjl
        injection e' with e'
        injection e' with e1 e2
        subst e1 e2
        have hlo := eff_lo hok T hjl
        have hlw := low_le hok j
        have hue := under_ok hok (t := T) hjl
        obtain ⟨X, hX⟩ : ∃ X, X = eff G T j := ⟨_, rfl⟩
        rw [← hX] at k0 hlo hue
        obtain ⟨U, hU⟩ : ∃ U, U = use G j := ⟨_, rfl⟩
        obtain ⟨O, hO⟩ : ∃ O, O = own G j := ⟨_, rfl⟩
        rw [← hU] at g1 hlw
        rw [← hO] at g2 hlw
        have t1 : decide (X < 0) = false := by simp; omega
        have t2 : decide (O < X) = false := by simp; omega
        have t3 : decide (U < X) = false := by simp; omega
        have HUE : Hid ((j : Int) ≠ T → blw G j T = false → under G T j G.length ≤ X) := hue
        clear hX hU hO hue hlo hlw
        go_wp2
        go_quiet (fail)
        go_wp2
        have hid : Ints (wr.drewN nq) (some ⟨be, oe, none⟩) E := ⟨hi.at'⟩
        have hBd : Below w.heap.size w (wr.drewN nq) := below_drawn hB nq
        have kd : (wr.drewN nq).cell? ⟨be, oe + j, none⟩ = some (.int .i64 X) := k0
        generalize wr.drewN nq = wd at *
        have HID : Hid (Ints wd (some ⟨be, oe, none⟩) E) := hid
        have HBD : Hid (Below w.heap.size w wd) := hBd
        clear hid hBd
        clear hi hB k0 g0 g1 g2 hg t1 t2 t3
        go_loop [8, 9] (fun s8 s9 => ∃ (k : Nat) (S : Int), k ≤ G.length ∧ s9 = .int .i64 k ∧ s8 = .int .i64 S ∧ 0 ≤ S ∧ S ≤ k * 1099511627776 ∧ Hid (S = under G T j k)) (fun _ s9 => G.length - (intOf s9).toNat)
        case atStart => exact ⟨0, 0, by omega, rfl, rfl, by omega, by omega, rfl⟩
        case round =>
          obtain ⟨k, S, hk, rfl, rfl, hS0, hS1, HS⟩ := hrel
          by_cases hkl : k < G.length
          · obtain ⟨b', off', e', g0, -⟩ := (HG.out _ HBD.out).get hkl
            injection e' with e'
            injection e' with e1 e2
            subst e1 e2
            obtain ⟨be', oe', e', v0⟩ := HI.out _ _ k HID.out hkl
            injection e' with e'
            injection e' with e1 e2
            subst e1 e2
            have hul := under_bd hok T j (k := k + 1) (by omega)
            obtain ⟨P, hP⟩ : ∃ P, P = par G k := ⟨_, rfl⟩
            obtain ⟨Z, hZ⟩ : ∃ Z, Z = eff G T k := ⟨_, rfl⟩
            have hzb := eff_lo hok T hkl
            have hzl := low_le hok k
            rw [← hP] at g0
            rw [← hZ] at v0 hzb
            have hst : under G T j (k + 1) = under G T j k + (if P = (j : Int) then Z else 0) := by rw [hP, hZ]; rfl
            have hZb : 0 ≤ Z ∧ Z ≤ 1099511627776 := by omega
            by_cases hpj : P = (j : Int)
            · have hd : (P == (j : Int)) = true := by simpa using hpj
              have HN : Hid (S + Z = under G T j (k + 1)) := by show _ = _; rw [hst, if_pos hpj, HS.out]
              clear hP hZ hzb hzl hst hul hpj HS HUE
              go_wp2
              exact ⟨⟨k + 1, S + Z, by omega, by go_num, by go_num, by omega, by omega, HN⟩, by simp [intOf]; omega⟩
            · have hd : (P == (j : Int)) = false := by simpa using hpj
              have HN : Hid (S = under G T j (k + 1)) := by show _ = _; rw [hst, if_neg hpj, HS.out, Int.add_zero]
              clear hP hZ hzb hzl hst hul hpj HS HUE
              go_wp2
              exact ⟨⟨k + 1, S, by omega, by go_num, rfl, by omega, by omega, HN⟩, by simp [intOf]; omega⟩
          · have hkn : k = G.length := by omega
            subst hkn
            by_cases hjt : j = T
            · subst hjt
              have hd : ((j : Int) != j) = false := by simp
              clear HS HUE
              go_wp2
              go_roundw
              case rel => exact ⟨j + 1, by omega, by go_num, HID.out, HBD.out⟩
              case measure => simp [intOf]; omega
            · have hd : ((j : Int) != T) = true := by simp; omega
              cases hab : blw G j T with
              | false =>
                have hle2 : S ≤ X := by rw [HS.out]; exact HUE.out (by omega) hab
                have hd2 : decide (X < S) = false := by simpa using hle2
                clear HS HUE hab hle2
                go_wp2
                go_roundw
                case rel => exact ⟨j + 1, by omega, by go_num, HID.out, HBD.out⟩
                case measure => simp [intOf]; omega
              | true =>
                have HA2 : Hid (Calls Try.prog 20 #[.slice (some ⟨b, off, none⟩) G.length cap, .int .i64 j, .int .i64 T] wd fun e w'' => e = .returned (.bool true) ∧ w'' = wd) := by
                  have := HA.out wd j (HG.out _ HBD.out)
                  rw [hab] at this
                  exact this
                clear HS HUE hab
                by_cases hle2 : X < S
                · have hd2 : decide (X < S) = true := by simpa using hle2
                  go_wp2_with fail
                  refine HA2.out.mono ?_
                  rintro e w9 ⟨rfl, rfl⟩
                  go_wp2
                  go_roundw
                  case rel => exact ⟨j + 1, by omega, by go_num, HID.out, HBD.out⟩
                  case measure => simp [intOf]; omega
                · have hd2 : decide (X < S) = false := by simpa using hle2
                  go_wp2
                  go_roundw
                  case rel => exact ⟨j + 1, by omega, by go_num, HID.out, HBD.out⟩
                  case measure => simp [intOf]; omega
      · have hlen : j = G.length := by omega
        subst hlen
        go_wp2
        go_ret
        exact ⟨rfl, hB⟩
end Go.Proofs.Ytimgpikgkbjliaa
