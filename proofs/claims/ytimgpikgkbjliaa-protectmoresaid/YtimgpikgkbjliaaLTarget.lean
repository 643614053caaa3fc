/-
  ProtectTarget, walked.
-/
import Derived.Test.YtimgpikgkbjliaaWorks
import Derived.Test.YtimgpikgkbjliaaOpen
import Derived.Test.YtimgpikgkbjliaaP10
import Derived.Test.YtimgpikgkbjliaaSets
namespace Go.Proofs.Ytimgpikgkbjliaa
open Go.RowKit

theorem HWorks : Hid (∀ w, Calls Try.prog 9 #[] w fun e w' => e = .returned (.bool true) ∧ Below w.heap.size w w') := works

set_option maxRecDepth 100000 in
set_option maxHeartbeats 8000000 in
theorem target_walk (a : Option Addr) (cap : Nat) (G : List Nd) (t g u : Int) (w : World) (h : ListIn w a cap G) :
    Calls Try.prog 8 #[.slice a G.length cap, .int .i64 t, .int .i64 g, .int .i64 u] w fun e w' => e = .returned (.bool true) ∧ Below w.heap.size w w' := by
  obtain ⟨hn, hle⟩ := h
  have HW := HWorks
  by_cases h64 : 64 < G.length
  · have hd : decide (64 < G.length) = true := by simpa using h64
    go_enter Try.func8, Try.ntmps8
    go_wp2_with fail
    refine (HW.out _).mono ?_
    rintro e w1 ⟨rfl, hb1⟩
    go_wp2
    go_ret
    exact ⟨rfl, hb1⟩
  have d64 : decide (64 < G.length) = false := by simpa using h64
  have d64i : decide ((64 : Int) < (G.length : Int)) = false := by simp; omega
  have HG : Hid (∀ w', Below w.heap.size w w' → Nds w' a cap G) := fun w' hb => hn.later hb
  have HV : Hid (∀ w', Nds w' a cap G → Calls Try.prog 14 #[.slice a G.length cap] w' fun e w'' => e = .returned (.bool (vd G)) ∧ Below w'.heap.size w' w'') := fun w' h => pvalid a cap G w' h (by omega)
  cases hv : vd G with
  | false =>
    rw [hv] at HV
    clear hv
    go_enter Try.func8, Try.ntmps8
    go_wp2_with fail
    refine (HW.out _).mono ?_
    rintro e w1 ⟨rfl, hb1⟩
    go_wp2_with fail
    refine (HV.out _ (HG.out _ hb1)).mono ?_
    rintro e w2 ⟨rfl, hb2⟩
    go_wp2
    go_ret
    exact ⟨rfl, bel_trans hb1 hb2⟩
  | true =>
    rw [hv] at HV
    by_cases hgood : (0 ≤ t ∧ t < G.length ∧ 0 ≤ g ∧ g < G.length ∧ 0 ≤ u ∧ u ≤ 1099511627776)
    · obtain ⟨ht0, ht1, hg0, hg1, hu0, hu1⟩ := hgood
      obtain ⟨T, rfl⟩ := Int.eq_ofNat_of_zero_le ht0
      obtain ⟨g, rfl⟩ := Int.eq_ofNat_of_zero_le hg0
      have hT : T < G.length := by omega
      have hgl : g < G.length := by omega
      have x1 : decide ((T : Int) < 0) = false := by simp
      have x2 : decide (G.length ≤ T) = false := by simp; omega
      have x3 : decide ((g : Int) < 0) = false := by simp
      have x4 : decide (G.length ≤ g) = false := by simp; omega
      have x5 : decide (u < 0) = false := by simp; omega
      have x6 : decide (1099511627776 < u) = false := by simp; omega
      have hok := ok_of hv
      obtain ⟨E, hEe⟩ : ∃ E, effL G T = E := ⟨_, rfl⟩
      have hEl : E.length = G.length := by rw [← hEe, effL_len hv hT, efN_len]
      have HEL : Hid (E.length = G.length) := hEl
      have HE : Hid (∀ w', Nds w' a cap G → Calls Try.prog 11 #[.slice a G.length cap, .int .i64 T] w' fun e w'' => ∃ a' c', e = .returned (.slice a' E.length c') ∧ Ints w'' a' E ∧ Below w'.heap.size w' w'') := by
        intro w' h
        have := peff a cap G T w' h (by omega)
        rw [hEe] at this
        exact this
      have HH : Hid (∀ w' ae ce, Nds w' a cap G → Ints w' ae E → Calls Try.prog 17 #[.slice a G.length cap, .slice ae E.length ce, .int .i64 T, .int .i64 T] w' fun e w'' => e = .returned (.bool false) ∧ Below w'.heap.size w' w'') := by
        intro w' ae ce h h2
        have := pHeld a cap G ae ce E T T w' h h2 (by omega) (by have := HEL.out; omega)
        have e0 : held G E T T = false := by unfold held; rw [hd_self]; simp
        rw [e0] at this
        exact this
      obtain ⟨B, hB⟩ : ∃ B, blw G T g = B := ⟨_, rfl⟩
      have HA : Hid (∀ w', Nds w' a cap G → Calls Try.prog 20 #[.slice a G.length cap, .int .i64 T, .int .i64 g] w' fun e w'' => e = .returned (.bool B) ∧ w'' = w') := by
        intro w' h
        have := pabove a cap G T g w' h hok hgl
        rw [hB] at this
        exact this
      cases B with
      | true =>
        clear hB hEe hEl hv hn hok
        go_enter Try.func8, Try.ntmps8
        go_wp2_with fail
        refine (HW.out _).mono ?_
        rintro e w1 ⟨rfl, hb1⟩
        go_wp2_with fail
        refine (HV.out _ (HG.out _ hb1)).mono ?_
        rintro e w2 ⟨rfl, hb2⟩
        have hB2 := bel_trans hb1 hb2
        go_wp2_with fail
        refine (HE.out _ (HG.out _ hB2)).mono ?_
        rintro e w3 ⟨ae, ce, rfl, hi3, hb3⟩
        have hB3 := bel_trans hB2 hb3
        go_wp2_with fail
        refine (HH.out _ _ _ (HG.out _ hB3) hi3).mono ?_
        rintro e w4 ⟨rfl, hb4⟩
        have hB4 := bel_trans hB3 hb4
        go_wp2_with fail
        refine (HA.out _ (HG.out _ hB4)).mono ?_
        rintro e w5 ⟨rfl, rfl⟩
        go_wp2
        go_ret
        exact ⟨rfl, hB4⟩
      | false =>
        have hap := effL_apart hv hT hgl ⟨hu0, hu1⟩ hB
        rw [hEe] at hap
        obtain ⟨L1, hL1⟩ : ∃ L1, L1 = G.set g ⟨par G g, u, own G g⟩ := ⟨_, rfl⟩
        obtain ⟨L2, hL2⟩ : ∃ L2, L2 = G.set g ⟨par G g, u, u⟩ := ⟨_, rfl⟩
        rw [← hL2] at hap
        have hL1l : L1.length = G.length := by rw [hL1]; simp
        have hL2l : L2.length = G.length := by rw [hL2]; simp
        have h12 : L2 = L1.set g ⟨par G g, u, u⟩ := by rw [hL1, hL2, List.set_set]
        have hg1' : L1.getD g nz = ⟨par G g, u, own G g⟩ := by rw [hL1]; exact getD_set_eq hgl nz
        have HS1 : Hid (∀ W q c, NdsOwn W q c G → NdsOwn (W.setCell ⟨q, g * 3 + 1, none⟩ (.int .i64 u)) q c L1) := by
          intro W q c hW
          rw [hL1]
          exact hW.set g 1 _ _ hgl (by decide) rfl
        have HS2 : Hid (∀ W q c, NdsOwn W q c L1 → NdsOwn (W.setCell ⟨q, g * 3 + 2, none⟩ (.int .i64 u)) q c L2) := by
          intro W q c hW
          rw [h12]
          exact hW.set g 2 _ _ (by omega) (by decide) (by rw [hg1']; rfl)
        have HE2 : Hid (∀ w' q c, NdsOwn w' q c L2 → Calls Try.prog 11 #[.slice (some ⟨q, 0, none⟩) G.length c, .int .i64 T] w' fun e w'' => ∃ a' c', e = .returned (.slice a' E.length c') ∧ Ints w'' a' E ∧ Below w'.heap.size w' w'') := by
          intro w' q c h
          have := peff (some ⟨q, 0, none⟩) c L2 T w' h.nds (by omega)
          rw [hap, hL2l] at this
          exact this
        have HR : Hid (∀ w' b1 c1 b2 c2, Ints w' b1 E → Ints w' b2 E → Calls Try.prog 10 #[.slice b1 E.length c1, .slice b2 E.length c2] w' fun e w'' => e = .returned (.bool true) ∧ Below w'.heap.size w' w'') := fun w' b1 c1 b2 c2 h1 h2 => prow b1 b2 c1 c2 E w' h1 h2 (by have := HEL.out; omega)
        have HF : Hid (flatN [] ++ flatN G = flatN G ∧ (flatN G).length = G.length * 3) := ⟨rfl, flatN_len G⟩
        have HC1 : Hid (∀ W q c, NdsOwn W q c G → (∃ v, W.cell? ⟨q, g * 3 + 1, none⟩ = some v) ∧ W.frozen? ⟨q, g * 3 + 1, none⟩ = false) := fun W q c h => h.cell g 1 hgl (by decide)
        have HC2 : Hid (∀ W q c, NdsOwn W q c L1 → (∃ v, W.cell? ⟨q, g * 3 + 2, none⟩ = some v) ∧ W.frozen? ⟨q, g * 3 + 2, none⟩ = false) := fun W q c h => h.cell g 2 (by omega) (by decide)
        obtain ⟨b, off, rfl, -⟩ := hn.get hgl
        obtain ⟨i0, hi, hz0, hz1, hz2⟩ := info_parts info38
        have hlen64 : G.length ≤ 64 := by omega
        clear hB hEe hEl hv hn hok hap hL1 hL2 hL1l hL2l h12 hg1'
        go_enter Try.func8, Try.ntmps8
        go_wp2_with fail
        refine (HW.out _).mono ?_
        rintro e w1 ⟨rfl, hb1⟩
        go_wp2_with fail
        refine (HV.out _ (HG.out _ hb1)).mono ?_
        rintro e w2 ⟨rfl, hb2⟩
        have hB2 := bel_trans hb1 hb2
        go_wp2_with fail
        refine (HE.out _ (HG.out _ hB2)).mono ?_
        rintro e w3 ⟨ae, ce, rfl, hi3, hb3⟩
        have hB3 := bel_trans hB2 hb3
        go_wp2_with fail
        refine (HH.out _ _ _ (HG.out _ hB3) hi3).mono ?_
        rintro e w4 ⟨rfl, hb4⟩
        have hi4 := hi3.later hb4
        have hB4 := bel_trans hB3 hb4
        go_wp2_with fail
        refine (HA.out _ (HG.out _ hB4)).mono ?_
        rintro e w5 ⟨rfl, rfl⟩
        clear hb1 hb2 hB2 hb3 hB3 hb4 hi3
        have hcells := nds_cells (HG.out _ hB4)
        have h05 := hB4.size
        go_wp2_with (at_builtin; refine wpList_append_own _ rfl _ _ 22 rfl w5.heap.size 38 i0 _ 3 24 Try.underlying22 hi hz0 hz1 hz2 rfl (by decide) (.slice none 0 0) 0 [] rfl (World.ownsRow_nil _ _ _ _) ⟨b, off, none⟩ G.length cap (flatN G) rfl HF.out.2 hcells (flatN_one G) (by unfold maxLen; omega) (by omega) (Nat.le_refl _) ?_; intro v' w6 hown6 hgrow6 _; simp only [Nat.zero_add, List.nil_append] at hown6 ⊢; obtain ⟨q, cq, rfl, hq6, hqB⟩ := own_own hown6 (by omega); have hb6 := grown_none hgrow6; obtain ⟨⟨v1, k1⟩, f1⟩ := HC1.out _ _ _ hq6; have hq7 := HS1.out _ _ _ hq6; obtain ⟨⟨v2, k2⟩, f2⟩ := HC2.out _ _ _ hq7)
        have hB6 := bel_trans hB4 hb6
        have hwq : w.heap.size ≤ q := by omega
        have hq8 := HS2.out _ _ _ hq7
        have hB8 := (hB6.setCell (p := ⟨q, g * 3 + 1, none⟩) hwq (.int .i64 u)).setCell (p := ⟨q, g * 3 + 2, none⟩) hwq (.int .i64 u)
        have hi8 := hi4.later ((hb6.setCell (p := ⟨q, g * 3 + 1, none⟩) hqB (.int .i64 u)).setCell (p := ⟨q, g * 3 + 2, none⟩) hqB (.int .i64 u))
        clear hB6 hown6 hgrow6 hq6 hb6 hq7 k1 k2 f1 f2 hcells hi4 hB4
        refine (HE2.out _ _ _ hq8).mono ?_
        rintro e w9 ⟨a9, c9, rfl, hi9, hb9⟩
        have hi89 := hi8.later hb9
        have hB9 := bel_trans hB8 hb9
        go_wp2_with fail
        refine (HR.out _ _ _ _ _ hi89 hi9).mono ?_
        rintro e w10 ⟨rfl, hb10⟩
        go_wp2
        go_ret
        exact ⟨rfl, bel_trans hB9 hb10⟩
    · have hway : decide (t < 0) = true ∨ (decide (t < 0) = false ∧ decide ((G.length : Int) ≤ t) = true) ∨ (decide (t < 0) = false ∧ decide ((G.length : Int) ≤ t) = false ∧ decide (g < 0) = true) ∨
          (decide (t < 0) = false ∧ decide ((G.length : Int) ≤ t) = false ∧ decide (g < 0) = false ∧ decide ((G.length : Int) ≤ g) = true) ∨
          (decide (t < 0) = false ∧ decide ((G.length : Int) ≤ t) = false ∧ decide (g < 0) = false ∧ decide ((G.length : Int) ≤ g) = false ∧ decide (u < 0) = true) ∨
          (decide (t < 0) = false ∧ decide ((G.length : Int) ≤ t) = false ∧ decide (g < 0) = false ∧ decide ((G.length : Int) ≤ g) = false ∧ decide (u < 0) = false ∧ decide (1099511627776 < u) = true) := by
        simp only [decide_eq_true_eq, decide_eq_false_iff_not]
        omega
      clear hgood hv
      rcases hway with x1 | ⟨x1, x2⟩ | ⟨x1, x2, x3⟩ | ⟨x1, x2, x3, x4⟩ | ⟨x1, x2, x3, x4, x5⟩ | ⟨x1, x2, x3, x4, x5, x6⟩
      all_goals
        go_enter Try.func8, Try.ntmps8
        go_wp2_with fail
        refine (HW.out _).mono ?_
        rintro e w1 ⟨rfl, hb1⟩
        go_wp2_with fail
        refine (HV.out _ (HG.out _ hb1)).mono ?_
        rintro e w2 ⟨rfl, hb2⟩
        go_wp2
        go_ret
        exact ⟨rfl, bel_trans hb1 hb2⟩
end Go.Proofs.Ytimgpikgkbjliaa
