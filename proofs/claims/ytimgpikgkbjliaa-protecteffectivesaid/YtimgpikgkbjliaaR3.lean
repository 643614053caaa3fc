/-
  The document's Effective.
-/
import Derived.Test.YtimgpikgkbjliaaP8
import Derived.Test.YtimgpikgkbjliaaP10
import Derived.Test.YtimgpikgkbjliaaR1
namespace Go.Proofs.Ytimgpikgkbjliaa
open Go.RowKit

set_option maxRecDepth 100000 in
set_option maxHeartbeats 8000000 in
theorem reff (a : Option Addr) (cap : Nat) (G : List Nd) (t : Int) (w : World) (h : Nds w a cap G) (hL : G.length ≤ 1000000) :
    Calls Try.prog 12 #[.slice a G.length cap, .int .i64 t] w fun e w' => ∃ a' c', e = .returned (.slice a' (effL G t).length c') ∧ Ints w' a' (effL G t) ∧ Below w.heap.size w w' := by
  obtain ⟨V, hV⟩ : ∃ V, vd G = V := ⟨_, rfl⟩
  have HV : Hid (∀ w, Nds w a cap G → Calls Try.prog 15 #[.slice a G.length cap] w fun e w' => e = .returned (.bool V) ∧ Below w.heap.size w w') := by
    intro w h
    have := rvalid a cap G w h (by omega)
    rw [hV] at this
    exact this
  have HM : Hid (effL G t = if V && isPlc G.length t then efN G t G.length else []) := by show _ = _; rw [← hV]; rfl
  have nilI : ∀ W : World, Ints W none [] := fun W => ⟨fun j hj => by simp at hj⟩
  have HNil : Hid (effL G t = [] → ∀ W : World, ∃ a' c', Ending.returned (.slice none 0 0) = Ending.returned (.slice a' (effL G t).length c') ∧ Ints W a' (effL G t)) := by
    intro h W
    rw [h]
    exact ⟨none, 0, rfl, nilI W⟩
  clear nilI
  cases V with
  | false =>
    have HF := HNil.out (by rw [HM.out]; rfl)
    have HF2 : Hid (∀ W : World, ∃ a' c', Ending.returned (.slice none 0 0) = Ending.returned (.slice a' (effL G t).length c') ∧ Ints W a' (effL G t)) := HF
    clear hV HM HF HNil
    go_enter Try.func12, Try.ntmps12
    go_wp2_with fail
    refine (HV.out _ h).mono ?_
    rintro e w1 ⟨rfl, hb1⟩
    go_wp2
    go_ret
    obtain ⟨a', c', g1, g2⟩ := HF2.out w1
    exact ⟨a', c', g1, g2, hb1⟩
  | true =>
    by_cases ht0 : t < 0
    · have d1 : decide (t < 0) = true := by simpa using ht0
      have HF2 : Hid (∀ W : World, ∃ a' c', Ending.returned (.slice none 0 0) = Ending.returned (.slice a' (effL G t).length c') ∧ Ints W a' (effL G t)) := HNil.out (by
        have : isPlc G.length t = false := by simp [isPlc]; intro; omega
        rw [HM.out, this]; rfl)
      clear hV HM HNil
      go_enter Try.func12, Try.ntmps12
      go_wp2_with fail
      refine (HV.out _ h).mono ?_
      rintro e w1 ⟨rfl, hb1⟩
      go_wp2
      go_ret
      obtain ⟨a', c', g1, g2⟩ := HF2.out w1
      exact ⟨a', c', g1, g2, hb1⟩
    have d1 : decide (t < 0) = false := by simpa using ht0
    by_cases ht1 : (G.length : Int) ≤ t
    · have d2 : decide ((G.length : Int) ≤ t) = true := by simpa using ht1
      have HF2 : Hid (∀ W : World, ∃ a' c', Ending.returned (.slice none 0 0) = Ending.returned (.slice a' (effL G t).length c') ∧ Ints W a' (effL G t)) := HNil.out (by
        have : isPlc G.length t = false := by simp [isPlc]; intro; omega
        rw [HM.out, this]; rfl)
      clear hV HM HNil
      go_enter Try.func12, Try.ntmps12
      go_wp2_with fail
      refine (HV.out _ h).mono ?_
      rintro e w1 ⟨rfl, hb1⟩
      go_wp2
      go_ret
      obtain ⟨a', c', g1, g2⟩ := HF2.out w1
      exact ⟨a', c', g1, g2, hb1⟩
    have d2 : decide ((G.length : Int) ≤ t) = false := by simpa using ht1
    have hI : isPlc G.length t = true := by simp [isPlc]; omega
    have HF : Hid (effL G t = efN G t G.length) := by show _ = _; rw [HM.out, hI]; rfl
    have hok := ok_of hV
    have hlen := hok.len
    have HG : Hid (∀ w', Below w.heap.size w w' → Nds w' a cap G) := fun w' hb => h.later hb
    clear hV hI HM HNil
    go_enter Try.func12, Try.ntmps12
    go_wp2_with fail
    refine (HV.out _ h).mono ?_
    rintro e w3 ⟨rfl, hb3⟩
    go_wp2_with (at_make; refine wpList_make_row _ rfl (.tmp 25) (.tmp 25) 25 rfl 3 (.int .i64 0) 8 Try.underlying25 info3 rfl .i64 .i64 _ _ G.length rfl rfl rfl rfl (by omega) (by omega) ?_; intro w4 hr4 hz4 hb4)
    rw [ci_zero, ← effRow_zero G t] at hr4
    have hb4' := bel_trans hb3 hb4
    have hbe : w.heap.size ≤ w3.heap.size := hb3.size
    generalize w3.heap.size = be at *
    clear h hb3 hb4 hz4
    go_loopw [6] (fun s6 wr => ∃ j : Nat, j ≤ G.length ∧ s6 = .int .i64 j ∧ RowAt wr be 3 (ci (effRow G t j)) ∧ Below w.heap.size w wr) (fun s6 _ => G.length - (intOf s6).toNat)
    case atStart => exact ⟨0, by omega, rfl, hr4, hb4'⟩
    case round =>
      clear hr4 hb4'
      obtain ⟨j, hj, rfl, hr, hb⟩ := hrel
      by_cases hjl : j < G.length
      · have hg := HG.out _ hb
        have HW : Hid (∀ w', Nds w' a cap G → Calls Try.prog 27 #[.slice a G.length cap, .int .i64 j, .int .i64 t] w' fun e w'' => e = .returned (.bool (blw G t j)) ∧ w'' = w') := fun w' h => rbelow a cap G t j w' h hok hjl (by omega)
        by_cases hjt : (j : Int) = t
        · have hd : ((j : Int) == t) = true := by simpa using hjt
          have HR : Hid (RowAt wr be 3 (ci (effRow G t (j + 1)))) := by
            show RowAt _ _ _ _
            rw [← effRow_none G t hjl (eff_none G (.inl hjt))]
            exact hr
          clear hjt hr
          go_wp2
          exact ⟨⟨j + 1, by omega, by go_num, HR.out, hb⟩, by simp [intOf]; omega⟩
        have hdt : ((j : Int) == t) = false := by simpa using hjt
        cases hbl : blw G t j with
        | false =>
          rw [hbl] at HW
          have HR : Hid (RowAt wr be 3 (ci (effRow G t (j + 1)))) := by
            show RowAt _ _ _ _
            rw [← effRow_none G t hjl (eff_none G (.inr hbl))]
            exact hr
          clear hjt hr
          go_wp2_with fail
          refine (HW.out _ hg).mono ?_
          rintro e w6 ⟨rfl, rfl⟩
          go_wp2
          exact ⟨⟨j + 1, by omega, by go_num, HR.out, hb⟩, by simp [intOf]; omega⟩
        | true =>
          rw [hbl] at HW
          obtain ⟨b, off, rfl, c0, c1, c2⟩ := hg.get hjl
          obtain ⟨M, hM⟩ : ∃ M, M = low G j := ⟨_, rfl⟩
          have hlw := low_le hok j
          rw [← hM] at hlw
          have hj0 : j ≠ 0 := fun e => by
            subst e
            rw [blw_up hok hjl hjt, hok.root hjl, blw_neg (by omega)] at hbl
            cases hbl
          obtain ⟨hp0, hpj⟩ := hok.up j (by omega) hjl
          obtain ⟨q, hq⟩ := Int.eq_ofNat_of_zero_le hp0
          rw [hq] at c0 hpj
          have hqj : q < j := by omega
          have hqt := eff_of hok hjl hjt hbl
          rw [hq, Int.toNat_natCast, ← hM] at hqt
          have htop : (q : Int) = t → eff G t j = M := fun e => by rw [eff_top G hjt hbl (hq.trans e), hM]
          have HT : Hid ((q : Int) = t → ∀ W, RowAt W be 3 (ci (effRow G t j)) → RowAt (W.setCell ⟨be, j, none⟩ (.int .i64 M)) be 3 (ci (effRow G t (j + 1)))) := by
            intro e W hW
            rw [← effRow_set G t hjl, htop e, ← ci_set]
            exact hW.set j _
          obtain ⟨u, hu⟩ : ∃ u, u = use G j := ⟨_, rfl⟩
          obtain ⟨o, ho⟩ : ∃ o, o = own G j := ⟨_, rfl⟩
          have hMm : M = min o u := by rw [hM, hu, ho]; rfl
          rw [← hu] at c1
          rw [← ho] at c2
          have s0 : wr.cell? ⟨be, j, none⟩ = some (.int .i64 (at0 (effRow G t j) j)) := by
            rw [hr.cell]
            exact ci_get _ _ (by rw [effRow_len G t hj]; exact hjl)
          have f0 := hr.frozen j
          -- what the two ways of min come to is one
          have HREST : Hid (RowAt wr be 3 (ci (effRow G t j)) ∧ Below w.heap.size w wr) := ⟨hr, hb⟩
          have HQT : Hid (¬ (q : Int) = t → eff G t j = if eff G t q < sib G q G.length then M * eff G t q / sib G q G.length else M) := hqt
          have hMb : 0 ≤ M ∧ M ≤ 1099511627776 := by omega
          clear hqt htop hu ho hM hjt hlw hbl hp0 hq
          go_wp2_with fail
          refine (HW.out _ hg).mono ?_
          rintro e w6 ⟨rfl, rfl⟩
          go_upto_region 8 with fail
          go_cut [7] (fun s7 wx => s7 = .int .i64 M ∧ wx = w6.drew)
          case first =>
            clear hg HG HW HREST
            by_cases huo : u < o
            · have e : min o u = u := by omega
              rw [e] at hMm
              subst hMm
              go_region
              go_wp2_with fail
              go_meet
              exact ⟨rfl, rfl⟩
            · have e : min o u = o := by omega
              rw [e] at hMm
              subst hMm
              go_region
              go_wp2_with fail
              go_meet
              exact ⟨rfl, rfl⟩
          case rest =>
            obtain ⟨rfl, hwc⟩ := hcut
            have hrc : RowAt wc be 3 (ci (effRow G t j)) := by rw [hwc]; exact hr.drewN 1
            have hBc : Below w.heap.size w wc := by rw [hwc]; exact below_drawn hb 1
            have c0c : wc.cell? ⟨b, off + j * 3, none⟩ = some (.int .i64 q) := by rw [hwc]; exact c0
            have s0c : wc.cell? ⟨be, j, none⟩ = some (.int .i64 (at0 (effRow G t j) j)) := by rw [hwc]; exact s0
            have f0c : wc.frozen? ⟨be, j, none⟩ = false := by rw [hwc]; exact f0
            clear hwc hr hb c0 c1 c2 s0 f0 hg HREST hMm HW HV
            by_cases hqt : (q : Int) = t
            · have hd : ((q : Int) == t) = true := by simpa using hqt
              have HR := HT.out hqt _ hrc
              have HR2 : Hid (RowAt (wc.setCell ⟨be, j, none⟩ (.int .i64 M)) be 3 (ci (effRow G t (j + 1)))) := HR
              clear HR HT HQT hqt hrc
              go_wp2
              exact ⟨⟨j + 1, by omega, by go_num, HR2.out, hBc.setCell (p := ⟨be, j, none⟩) hbe _⟩, by simp [intOf]; omega⟩
            · have hd : ((q : Int) == t) = false := by simpa using hqt
              have hQT := HQT.out hqt
              have hE := eff_lo hok t (i := q) (by omega)
              have hEl := low_le hok q
              have hEa : at0 (effRow G t j) q = eff G t q := effRow_at G t hqj
              have hS1 := sib_le hok q G.length
              obtain ⟨E, hEe⟩ : ∃ E, E = eff G t q := ⟨_, rfl⟩
              rw [← hEe] at hE hEa hQT
              have HQ2 : Hid (eff G t j = if E < sib G q G.length then M * E / sib G q G.length else M) := hQT
              have HEb : Hid (0 ≤ E ∧ E ≤ 1099511627776) := ⟨hE.1, by omega⟩
              have HEa : Hid (at0 (effRow G t j) q = E) := hEa
              have hql : q < G.length := by omega
              clear hQT hE hEl hEa hEe HQT HT hqt hS1 s0c f0c
              go_wp2
              go_loopw [9, 10] (fun s9 s10 wx => ∃ (k : Nat) (S : Int), k ≤ G.length ∧ s10 = .int .i64 k ∧ s9 = .int .i64 S ∧ 0 ≤ S ∧ S ≤ k * 1099511627776 ∧ Hid (S = sib G q k) ∧ RowAt wx be 3 (ci (effRow G t j)) ∧ Below w.heap.size w wx) (fun _ s10 _ => G.length - (intOf s10).toNat)
              case atStart => exact ⟨0, 0, by omega, rfl, rfl, by omega, by omega, rfl, hrc, hBc⟩
              case round =>
                clear hrc hBc c0c
                obtain ⟨k, S, hk, rfl, rfl, hS0, hS1, HS, hrk, hBk⟩ := hrel
                by_cases hkl : k < G.length
                · obtain ⟨b', off', e', g0, g1, g2⟩ := (HG.out _ hBk).get hkl
                  injection e' with e'
                  injection e' with e1 e2
                  subst e1 e2
                  have hst : sib G q (k + 1) = sib G q k + (if par G k = (q : Int) then low G k else 0) := rfl
                  have hlk := low_le hok k
                  obtain ⟨P, hP⟩ : ∃ P, P = par G k := ⟨_, rfl⟩
                  obtain ⟨U, hU⟩ : ∃ U, U = use G k := ⟨_, rfl⟩
                  obtain ⟨O, hO⟩ : ∃ O, O = own G k := ⟨_, rfl⟩
                  have hlm : low G k = min O U := by rw [hU, hO]; rfl
                  rw [← hP] at g0 hst
                  rw [← hU] at g1
                  rw [← hO] at g2
                  rw [hlm] at hst hlk
                  by_cases hPq : P = (q : Int)
                  · have hd2 : (P == (q : Int)) = true := by simpa using hPq
                    have HN : Hid (S + min O U = sib G q (k + 1)) := by show _ = _; rw [hst, if_pos hPq, HS.out]
                    obtain ⟨hl0, -, -, hl1⟩ := hlk
                    have HRK : Hid (RowAt wr be 3 (ci (effRow G t j)) ∧ Below w.heap.size w wr) := ⟨hrk, hBk⟩
                    clear hst hP hU hO hlm hPq HS HQ2 hrk hBk
                    by_cases huo : U < O
                    · have e : min O U = U := by omega
                      rw [e] at HN hl0 hl1
                      have e1 : IntKind.i64.wrap (S + U) = S + U := by rw [IntKind.wrap_i64]; omega
                      go_wp2
                      go_region
                      go_wp2
                      exact ⟨⟨k + 1, S + U, by omega, by go_num, rfl, by omega, by omega, HN, HRK.out.1.drewN 1, below_drawn HRK.out.2 1⟩, by simp [intOf]; omega⟩
                    · have e : min O U = O := by omega
                      rw [e] at HN hl0 hl1
                      have e1 : IntKind.i64.wrap (S + O) = S + O := by rw [IntKind.wrap_i64]; omega
                      go_wp2
                      go_region
                      go_wp2
                      exact ⟨⟨k + 1, S + O, by omega, by go_num, rfl, by omega, by omega, HN, HRK.out.1.drewN 1, below_drawn HRK.out.2 1⟩, by simp [intOf]; omega⟩
                  · have hd2 : (P == (q : Int)) = false := by simpa using hPq
                    have HN : Hid (S = sib G q (k + 1)) := by show _ = _; rw [hst, if_neg hPq, HS.out, Int.add_zero]
                    have HRK : Hid (RowAt wr be 3 (ci (effRow G t j)) ∧ Below w.heap.size w wr) := ⟨hrk, hBk⟩
                    clear hst hP hU hO hlm hPq HS HQ2 hrk hBk hlk
                    go_wp2
                    exact ⟨⟨k + 1, S, by omega, by go_num, rfl, by omega, by omega, HN, HRK.out.1, HRK.out.2⟩, by simp [intOf]; omega⟩
                · have hkn : k = G.length := by omega
                  subst hkn
                  have hdn : decide (G.length < G.length) = false := by simp
                  have s0 : wr.cell? ⟨be, j, none⟩ = some (.int .i64 (at0 (effRow G t j) j)) := by
                    rw [hrk.cell]
                    exact ci_get _ _ (by rw [effRow_len G t hj]; exact hjl)
                  have f0 := hrk.frozen j
                  have s1 : wr.cell? ⟨be, q, none⟩ = some (.int .i64 E) := by
                    rw [hrk.cell, ci_get _ _ (by rw [effRow_len G t hj]; exact hql), HEa.out]
                  have hjq : ¬ j = q := by omega
                  have hq2 := HQ2.out
                  rw [← HS.out] at hq2
                  by_cases hES : E < S
                  · have hd2 : decide (E < S) = true := by simpa using hES
                    rw [if_pos hES] at hq2
                    obtain ⟨R, hR⟩ : ∃ R, R = prt M E S := ⟨_, rfl⟩
                    have hRe : R = eff G t j := by rw [hR, hq2]; exact if_pos hES
                    have HPt : Hid (∀ w', Calls Try.prog 28 #[.int .i64 M, .int .i64 E, .int .i64 S] w' fun e w'' => e = .returned (.int .i64 R) ∧ w'' = w') := by
                      intro w'
                      rw [hR]
                      exact rpart M E S w' hMb HEb.out hES (by omega)
                    have HR : Hid (RowAt ((wr.setCell ⟨be, j, none⟩ (.int .i64 M)).setCell ⟨be, j, none⟩ (.int .i64 R)) be 3 (ci (effRow G t (j + 1)))) := by
                      show RowAt _ _ _ _
                      rw [← effRow_set G t hjl, ← hRe, ← ci_set]
                      have := (hrk.set j (.int .i64 M)).set j (.int .i64 R)
                      rwa [List.set_set] at this
                    have HBk : Hid (Below w.heap.size w ((wr.setCell ⟨be, j, none⟩ (.int .i64 M)).setCell ⟨be, j, none⟩ (.int .i64 R))) := (hBk.setCell (p := ⟨be, j, none⟩) hbe _).setCell (p := ⟨be, j, none⟩) hbe _
                    clear hq2 hR hRe HS HQ2 hrk hBk hES
                    go_wp2_with fail
                    refine (HPt.out _).mono ?_
                    rintro e w9 ⟨rfl, rfl⟩
                    go_wp2
                    go_roundw
                    case rel => exact ⟨j + 1, by omega, by go_num, HR.out, HBk.out⟩
                    case measure => simp [intOf]; omega
                  · have hd2 : decide (E < S) = false := by simpa using hES
                    rw [if_neg hES] at hq2
                    have HR : Hid (RowAt (wr.setCell ⟨be, j, none⟩ (.int .i64 M)) be 3 (ci (effRow G t (j + 1)))) := by
                      show RowAt _ _ _ _
                      rw [← effRow_set G t hjl, hq2, ← ci_set]
                      exact hrk.set j _
                    have HBk : Hid (Below w.heap.size w (wr.setCell ⟨be, j, none⟩ (.int .i64 M))) := hBk.setCell (p := ⟨be, j, none⟩) hbe _
                    clear hq2 HS HQ2 hrk hBk hES
                    go_wp2
                    go_roundw
                    case rel => exact ⟨j + 1, by omega, by go_num, HR.out, HBk.out⟩
                    case measure => simp [intOf]; omega
      · have hlenj : j = G.length := by omega
        subst hlenj
        rw [effRow_end] at hr
        go_wp2
        go_ret
        refine ⟨some ⟨be, 0, none⟩, G.length, ?_, ?_, hb⟩
        · rw [HF.out, efN_len]; rfl
        · rw [HF.out]; exact Ints.ofRow hr
end Go.Proofs.Ytimgpikgkbjliaa
