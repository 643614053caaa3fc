/-
  ProtectMore, walked.
-/
import Derived.Test.YtimgpikgkbjliaaLTarget
namespace Go.Proofs.Ytimgpikgkbjliaa
open Go.RowKit

/-- One just below the target asks for more. -/
theorem more_math {L : List Nd} (h : vd L = true) {T g : Nat} (hT : T < L.length) (hg : g < L.length) (hp : par L g = T) {x : Int} (hx : own L g ≤ x ∧ x ≤ 1099511627776) :
    ∃ F : List Int, effL (L.set g ⟨par L g, use L g, x⟩) T = F ∧ F.length = L.length ∧ (∀ i, i < L.length → eff L T i ≤ at0 F i) ∧ at0 F g = min x (use L g) := by
  have hl := ok_of h
  have ho := hl.o g
  have hu := hl.u g
  have hv := vd_set h hg hu (o := x) ⟨by omega, hx.2⟩
  have hm := ok_of hv
  have hlen : (L.set g ⟨par L g, use L g, x⟩).length = L.length := by simp
  have hps := par_set hg (use L g) x
  have hlg : low L g ≤ low (L.set g ⟨par L g, use L g, x⟩) g := by rw [low_set_eq hg]; unfold low; omega
  refine ⟨_, rfl, ?_, ?_, ?_⟩
  · rw [effL_len hv (by omega), efN_len, hlen]
  · intro i hi
    rw [effL_len hv (by omega)]
    have := eff_more hl hm hlen hps hp (fun i hi => low_set_ne hi) hlg (i + 1) i (by omega) hi
    unfold at0
    rw [hlen, eff_get _ _ hi]
    exact this
  · rw [effL_len hv (by omega)]
    unfold at0
    rw [hlen, eff_get _ _ hg]
    have hne : (g : Int) ≠ T := by have := par_lo hl hg; omega
    rw [eff_top _ hne (by rw [blw_same hps, blw_up hl hg hne, hp, blw_self (by omega)]) (by rw [hps]; exact hp), low_set_eq hg]

set_option maxRecDepth 100000 in
set_option maxHeartbeats 8000000 in
theorem more_walk (a : Option Addr) (cap : Nat) (G : List Nd) (t g x : Int) (w : World) (h : ListIn w a cap G) :
    Calls Try.prog 6 #[.slice a G.length cap, .int .i64 t, .int .i64 g, .int .i64 x] w fun e w' => e = .returned (.bool true) ∧ Below w.heap.size w w' := by
  obtain ⟨hn, hle⟩ := h
  have HW := HWorks
  by_cases h70 : 70 < G.length
  · have hd : decide (70 < G.length) = true := by simpa using h70
    go_enter Try.func6, Try.ntmps6
    go_wp2_with fail
    refine (HW.out _).mono ?_
    rintro e w1 ⟨rfl, hb1⟩
    go_wp2
    go_ret
    exact ⟨rfl, hb1⟩
  have d70 : decide (70 < G.length) = false := by simpa using h70
  have d70i : decide ((70 : Int) < (G.length : Int)) = false := by simp; omega
  have HG : Hid (∀ w', Below w.heap.size w w' → Nds w' a cap G) := fun w' hb => hn.later hb
  have HV : Hid (∀ w', Nds w' a cap G → Calls Try.prog 14 #[.slice a G.length cap] w' fun e w'' => e = .returned (.bool (vd G)) ∧ Below w'.heap.size w' w'') := fun w' h => pvalid a cap G w' h (by omega)
  cases hv : vd G with
  | false =>
    rw [hv] at HV
    clear hv
    go_enter Try.func6, Try.ntmps6
    go_wp2_with fail
    refine (HW.out _).mono ?_
    rintro e w1 ⟨rfl, hb1⟩
    go_wp2_with fail
    refine (HV.out _ (HG.out _ hb1)).mono ?_
    rintro e w2 ⟨rfl, hb2⟩
    go_wp2
    go_ret
    exact ⟨rfl, bel_trans hb1 hb2⟩
  | true =>
    rw [hv] at HV
    by_cases hgood : (0 ≤ t ∧ t < G.length ∧ 0 ≤ g ∧ g < G.length)
    · obtain ⟨ht0, ht1, hg0, hg1⟩ := hgood
      obtain ⟨T, rfl⟩ := Int.eq_ofNat_of_zero_le ht0
      obtain ⟨g, rfl⟩ := Int.eq_ofNat_of_zero_le hg0
      have hT : T < G.length := by omega
      have hgl : g < G.length := by omega
      have x1 : decide ((T : Int) < 0) = false := by simp
      have x2 : decide (G.length ≤ T) = false := by simp; omega
      have x3 : decide ((g : Int) < 0) = false := by simp
      have x4 : decide (G.length ≤ g) = false := by simp; omega
      have hok := ok_of hv
      have hlen64 := hok.len
      obtain ⟨P, hP⟩ : ∃ P, P = par G g := ⟨_, rfl⟩
      obtain ⟨U, hU⟩ : ∃ U, U = use G g := ⟨_, rfl⟩
      obtain ⟨O, hO⟩ : ∃ O, O = own G g := ⟨_, rfl⟩
      have HG3 : Hid (∀ w', Below w.heap.size w w' → ∃ b off, a = some ⟨b, off, none⟩ ∧ w'.cell? ⟨b, off + g * 3, none⟩ = some (.int .i64 P) ∧ w'.cell? ⟨b, off + g * 3 + 1, none⟩ = some (.int .i64 U) ∧ w'.cell? ⟨b, off + g * 3 + 2, none⟩ = some (.int .i64 O)) := by
        intro w' hb
        rw [hP, hU, hO]
        exact (HG.out _ hb).get hgl
      by_cases hgood2 : P = T ∧ O ≤ x ∧ x ≤ 1099511627776
      · obtain ⟨hPT, hx0, hx1⟩ := hgood2
        have y1 : (P != (T : Int)) = false := by simpa using hPT
        have y2 : decide (x < O) = false := by simp; omega
        have y3 : decide (1099511627776 < x) = false := by simp; omega
        obtain ⟨F, hF, hFl, hFge, hFg⟩ := more_math hv hT hgl (hP ▸ hPT) (x := x) ⟨by rw [← hO]; exact hx0, hx1⟩
        rw [← hP, ← hU] at hF
        rw [← hU] at hFg
        obtain ⟨E, hEe⟩ : ∃ E, effL G T = E := ⟨_, rfl⟩
        have hEn := effL_len hv hT
        have hEl : E.length = G.length := by rw [← hEe, hEn, efN_len]
        have HE : Hid (∀ w', Nds w' a cap G → Calls Try.prog 11 #[.slice a G.length cap, .int .i64 T] w' fun e w'' => ∃ a' c', e = .returned (.slice a' G.length c') ∧ Ints w'' a' E ∧ Below w'.heap.size w' w'') := by
          intro w' h
          have := peff a cap G T w' h (by omega)
          rw [hEe, hEl] at this
          exact this
        obtain ⟨L2, hL2⟩ : ∃ L2, L2 = G.set g ⟨P, U, x⟩ := ⟨_, rfl⟩
        rw [← hL2] at hF
        have hL2l : L2.length = G.length := by rw [hL2]; simp
        have HS2 : Hid (∀ W q c, NdsOwn W q c G → NdsOwn (W.setCell ⟨q, g * 3 + 2, none⟩ (.int .i64 x)) q c L2) := by
          intro W q c hW
          rw [hL2, hP, hU]
          exact hW.set g 2 _ _ hgl (by decide) rfl
        have HE2 : Hid (∀ w' q c, NdsOwn w' q c L2 → Calls Try.prog 11 #[.slice (some ⟨q, 0, none⟩) G.length c, .int .i64 T] w' fun e w'' => ∃ a' c', e = .returned (.slice a' G.length c') ∧ Ints w'' a' F ∧ Below w'.heap.size w' w'') := by
          intro w' q c h
          have := peff (some ⟨q, 0, none⟩) c L2 T w' h.nds (by omega)
          rw [hF, hL2l, hFl] at this
          exact this
        have HF : Hid ((flatN G).length = G.length * 3) := flatN_len G
        have HC2 : Hid (∀ W q c, NdsOwn W q c G → (∃ v, W.cell? ⟨q, g * 3 + 2, none⟩ = some v) ∧ W.frozen? ⟨q, g * 3 + 2, none⟩ = false) := fun W q c h => h.cell g 2 hgl (by decide)
        have HI : Hid (∀ W ae be i, Ints W ae E → Ints W be F → i < G.length → ∃ x y b1 o1 b2 o2, ae = some ⟨b1, o1, none⟩ ∧ be = some ⟨b2, o2, none⟩ ∧ W.cell? ⟨b1, o1 + i, none⟩ = some (.int .i64 x) ∧ W.cell? ⟨b2, o2 + i, none⟩ = some (.int .i64 y) ∧ decide (y < x) = false) := by
          intro W ae be i h1 h2 hi
          obtain ⟨b1, o1, e1, c1⟩ := h1.at' i (by omega)
          obtain ⟨b2, o2, e2, c2⟩ := h2.at' i (by omega)
          refine ⟨_, _, b1, o1, b2, o2, e1, e2, c1, c2, ?_⟩
          have hh := hFge i hi
          have : E.getD i 0 = eff G T i := by rw [← hEe, hEn]; exact eff_get G T hi
          rw [this]
          unfold at0 at hh
          simpa using hh
        have HIg : Hid (∀ W be, Ints W be F → ∃ b2 o2, be = some ⟨b2, o2, none⟩ ∧ W.cell? ⟨b2, o2 + g, none⟩ = some (.int .i64 (min x U))) := by
          intro W be h2
          obtain ⟨b2, o2, e2, c2⟩ := h2.at' g (by omega)
          exact ⟨b2, o2, e2, by rw [← hFg]; exact c2⟩
        obtain ⟨b, off, rfl, -⟩ := hn.get hgl
        obtain ⟨i0, hi, hz0, hz1, hz2⟩ := info_parts info38
        clear hP hU hO hPT hF hFl hFge hFg hEe hEn hEl hL2 hL2l hv hn hok
        go_enter Try.func6, Try.ntmps6
        go_wp2_with fail
        refine (HW.out _).mono ?_
        rintro e w1 ⟨rfl, hb1⟩
        go_wp2_with fail
        refine (HV.out _ (HG.out _ hb1)).mono ?_
        rintro e w2 ⟨rfl, hb2⟩
        have hB2 := bel_trans hb1 hb2
        obtain ⟨b', off', e', g0, g1, g2⟩ := HG3.out _ hB2
        injection e' with e'
        injection e' with e1 e2
        subst e1 e2
        go_wp2_with fail
        refine (HE.out _ (HG.out _ hB2)).mono ?_
        rintro e w3 ⟨ae, ce, rfl, hi3, hb3⟩
        have hB3 := bel_trans hB2 hb3
        clear hb1 hb2 hB2 hb3 g0 g1 g2
        have hcells := nds_cells (HG.out _ hB3)
        have h05 := hB3.size
        go_wp2_with (at_builtin; refine wpList_append_own _ rfl _ _ 22 rfl w3.heap.size 38 i0 _ 3 24 Try.underlying22 hi hz0 hz1 hz2 rfl (by decide) (.slice none 0 0) 0 [] rfl (World.ownsRow_nil _ _ _ _) ⟨b, off, none⟩ G.length cap (flatN G) rfl HF.out hcells (flatN_one G) (by unfold maxLen; omega) (by omega) (Nat.le_refl _) ?_; intro v' w6 hown6 hgrow6 _; simp only [Nat.zero_add, List.nil_append] at hown6 ⊢; obtain ⟨q, cq, rfl, hq6, hqB⟩ := own_own hown6 (by omega); have hb6 := grown_none hgrow6; obtain ⟨⟨v1, k1⟩, f1⟩ := HC2.out _ _ _ hq6)
        have hB6 := bel_trans hB3 hb6
        have hwq : w.heap.size ≤ q := by omega
        have hq8 := HS2.out _ _ _ hq6
        have hB8 := hB6.setCell (p := ⟨q, g * 3 + 2, none⟩) hwq (.int .i64 x)
        have hi8 := hi3.later (hb6.setCell (p := ⟨q, g * 3 + 2, none⟩) hqB (.int .i64 x))
        clear hB6 hown6 hgrow6 hq6 hb6 k1 f1 hcells hi3 hB3
        refine (HE2.out _ _ _ hq8).mono ?_
        rintro e w9 ⟨a9, c9, rfl, hi9, hb9⟩
        have hi89 := hi8.later hb9
        have hB9 := bel_trans hB8 hb9
        clear hi8 hB8 hq8 hb9
        go_wp2
        go_loopw [13] (fun s13 wr => ∃ j : Nat, j ≤ G.length ∧ s13 = .int .i64 j ∧ Ints wr ae E ∧ Ints wr a9 F ∧ Below w.heap.size w wr) (fun s13 _ => G.length - (intOf s13).toNat)
        case atStart => exact ⟨0, by omega, rfl, hi89, hi9, hB9⟩
        case round =>
          clear hi89 hi9 hB9
          obtain ⟨j, hj, rfl, h1, h2, hB⟩ := hrel
          by_cases hjl : j < G.length
          · obtain ⟨xx, yy, b1, o1, b2, o2, rfl, rfl, c1, c2, hd⟩ := HI.out _ _ _ j h1 h2 hjl
            have HH : Hid (Ints wr (some ⟨b1, o1, none⟩) E ∧ Ints wr (some ⟨b2, o2, none⟩) F ∧ Below w.heap.size w wr) := ⟨h1, h2, hB⟩
            clear h1 h2 hB
            go_wp2
            go_quiet (fail)
            go_wp2
            exact ⟨⟨j + 1, by omega, by go_num, ⟨HH.out.1.at'⟩, ⟨HH.out.2.1.at'⟩, below_drawn HH.out.2.2 _⟩, by simp [intOf]; omega⟩
          · have hlen : j = G.length := by omega
            subst hlen
            obtain ⟨b2, o2, rfl, c2⟩ := HIg.out _ _ h2
            obtain ⟨b', off', e', g0, g1, g2⟩ := HG3.out _ hB
            injection e' with e'
            injection e' with e1 e2
            subst e1 e2
            clear HG HG3 HE HE2 HC2 HS2 HI HIg HV h1 h2
            by_cases hux : U < x
            · have e : min x U = U := by omega
              rw [e] at c2
              go_wp2
              go_region
              go_wp2
              go_ret
              exact ⟨rfl, below_drawn hB 1⟩
            · have e : min x U = x := by omega
              rw [e] at c2
              go_wp2
              go_region
              go_wp2
              go_ret
              exact ⟨rfl, below_drawn hB 1⟩
      · have hway : (P != (T : Int)) = true ∨ ((P != (T : Int)) = false ∧ decide (x < O) = true) ∨ ((P != (T : Int)) = false ∧ decide (x < O) = false ∧ decide (1099511627776 < x) = true) := by
          by_cases hp : P = T
          · have e : (P != (T : Int)) = false := by simpa using hp
            have : x < O ∨ (¬ x < O ∧ 1099511627776 < x) := by omega
            rcases this with h1 | ⟨h1, h2⟩
            · exact .inr (.inl ⟨e, by simpa using h1⟩)
            · exact .inr (.inr ⟨e, by simpa using h1, by simpa using h2⟩)
          · exact .inl (by simpa using hp)
        clear hgood2 hP hU hO hv hok
        obtain ⟨b, off, rfl, -⟩ := hn.get hgl
        rcases hway with y1 | ⟨y1, y2⟩ | ⟨y1, y2, y3⟩
        all_goals
          go_enter Try.func6, Try.ntmps6
          go_wp2_with fail
          refine (HW.out _).mono ?_
          rintro e w1 ⟨rfl, hb1⟩
          go_wp2_with fail
          refine (HV.out _ (HG.out _ hb1)).mono ?_
          rintro e w2 ⟨rfl, hb2⟩
          have hB2 := bel_trans hb1 hb2
          obtain ⟨b', off', e', g0, g1, g2⟩ := HG3.out _ hB2
          injection e' with e'
          injection e' with e1 e2
          subst e1 e2
          go_wp2
          go_ret
          exact ⟨rfl, hB2⟩
    · have hway : decide (t < 0) = true ∨ (decide (t < 0) = false ∧ decide ((G.length : Int) ≤ t) = true) ∨ (decide (t < 0) = false ∧ decide ((G.length : Int) ≤ t) = false ∧ decide (g < 0) = true) ∨
          (decide (t < 0) = false ∧ decide ((G.length : Int) ≤ t) = false ∧ decide (g < 0) = false ∧ decide ((G.length : Int) ≤ g) = true) := by
        simp only [decide_eq_true_eq, decide_eq_false_iff_not]
        omega
      clear hgood hv
      rcases hway with x1 | ⟨x1, x2⟩ | ⟨x1, x2, x3⟩ | ⟨x1, x2, x3, x4⟩
      all_goals
        go_enter Try.func6, Try.ntmps6
        go_wp2_with fail
        refine (HW.out _).mono ?_
        rintro e w1 ⟨rfl, hb1⟩
        go_wp2_with fail
        refine (HV.out _ (HG.out _ hb1)).mono ?_
        rintro e w2 ⟨rfl, hb2⟩
        go_wp2
        go_ret
        exact ⟨rfl, bel_trans hb1 hb2⟩
end Go.Proofs.Ytimgpikgkbjliaa
