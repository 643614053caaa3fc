/-
  The law PagesIds walked.
-/
import Derived.Test.YtponlldgnlckfaaSt
import Derived.BigQuiet
import Derived.Deep.CutBlock
import Derived.Deep.DeepCutAuto
namespace Go.Proofs.Ytponlldgnlckfaa
open Go.RowKit

section
variable {Tb : World → World → Nat → (Nat → Prop) → List Pg → Prop}
set_option maxRecDepth 100000 in
set_option maxHeartbeats 8000000 in
theorem ids_out (I : TbI Tb) (a : Option Addr) (cap n : Nat) (w : World) (h : decide ((80 : Int) < (n : Int)) = true) :
    Calls Try.prog 7 #[.slice a n cap] w fun e w' => e = .returned (.bool true) ∧ Below w.heap.size w w' := by
  have HW := hid (fun w => works_any I w)
  go_enter Try.func7, Try.ntmps7
  go_wp2_with (go_at_call 10; refine (HW.out _).mono ?_; rintro e w1 ⟨rfl, hb⟩)
  go_ret
  exact ⟨rfl, hb⟩

set_option maxRecDepth 100000 in
set_option maxHeartbeats 8000000 in
theorem ids_in (I : TbI Tb) (a : Option Addr) (cap : Nat) (l : List Ac) (w : World) (hc : ActsAt w a l) (hl : l.length ≤ 80) :
    Calls Try.prog 7 #[.slice a l.length cap] w fun e w' => e = .returned (.bool true) ∧ Below w.heap.size w w' := by
  have d1 : decide ((80 : Int) < (l.length : Int)) = false := by simp; omega
  have HC := hid hc
  clear hc
  go_enter Try.func7, Try.ntmps7
  go_wp2_with fail
  refine (works_any I _).mono ?_
  rintro e w1 ⟨rfl, hb1⟩
  have HB1 := hid hb1
  clear hb1
  go_wp2_with fail
  refine (St.new I (Below.refl _ w1)).mono ?_
  rintro e w2 ⟨t, rfl, h2⟩
  have H2 := hid h2
  clear h2 d1
  go_wp2_with fail
  go_loopw [5, 6, 7, 8, 9, 10] (fun s5 s6 _ _ _ _ wr => ∃ i : Nat, i ≤ l.length ∧ s6 = .int .i64 i ∧ s5 = .int .i64 ((dL l i).length : Nat) ∧ St Tb w1 wr t (dL l i) []) (fun _ s6 _ _ _ _ _ => l.length - (intOf s6).toNat)
  case atStart => exact ⟨0, by omega, rfl, rfl, H2.out⟩
  case round =>
    clear H2
    obtain ⟨i, hi, rfl, rfl, hT⟩ := hrel
    have hdl := dL_len l i hi
    have hok := dL_ok l i hi
    by_cases hlt : i < l.length
    · have d0 : decide ((i : Int) < (l.length : Int)) = true := by simp; omega
      obtain ⟨b, off, rfl, k0, k1, k2, k3, k4, k5, hw⟩ := ((HC.out.below HB1.out).below (hT.bel I)).at hlt
      have hD := dL_succ l i hlt
      obtain ⟨r, hr⟩ : ∃ r, r = l[i] := ⟨_, rfl⟩
      have HAT : Hid (∀ W, St Tb w1 W t (dL l (i + 1)) [] → W.cell? ⟨b, off + i * 6, none⟩ = some (.int .i64 r.k) ∧ W.cell? ⟨b, off + i * 6 + 1, none⟩ = some (.int .i64 r.id)) := by
        intro W hW
        obtain ⟨b', off', e, g0, g1, -⟩ := ((HC.out.below HB1.out).below (hW.bel I)).at hlt
        have e2 := Option.some.inj e
        injection e2 with e3 e4
        subst e3
        subst e4
        rw [← hr] at g0 g1
        exact ⟨g0, g1⟩
      rw [← hr] at k0 k1 k2 k3 k4 k5 hw hD
      obtain ⟨L, hL⟩ : ∃ L, L = dL l i := ⟨_, rfl⟩
      rw [← hL] at hT hok hdl hD
      rw [← hL]
      have C := hid (hT.doI I hok (by omega) (by omega) r hw)
      have hlen := len_do L r
      rw [← hD] at C hlen
      obtain ⟨L1, hL1⟩ : ∃ K, K = dL l (i + 1) := ⟨_, rfl⟩
      have HL1 := hid hL1
      rw [← hL1] at C hlen HAT hD
      obtain ⟨N, hN⟩ : ∃ N, N = doN L r := ⟨_, rfl⟩
      obtain ⟨E, hE⟩ : ∃ E, E = doE L r := ⟨_, rfl⟩
      rw [← hN, ← hE] at C
      rw [← hE] at hlen
      have h0 : kd r = 0 → E = 0 → N = (L.length : Int) := by
        intro g0 g1
        have g2 : doE L r = makeE L r.kf r.ki := by unfold doE; rw [if_pos g0]
        have g3 : doN L r = makeR L r.kf r.ki := by unfold doN; rw [if_pos g0]
        rw [hN, g3]
        have g4 : makeE L r.kf r.ki = 0 := by rw [← g2, ← hE]; exact g1
        unfold makeE at g4
        unfold makeR
        by_cases hb : busyL L r.kf r.ki = true
        · rw [if_pos hb] at g4; cases g4
        · rw [if_neg hb]
      have h3 : kd r = 3 → E = 0 → getE L1 r.id = 2 := by
        intro g0 g1
        have g2 : doE L r = dropE L r.id := by unfold doE; rw [g0]; rfl
        have g3 : doL L r = dropL L r.id := by unfold doL; rw [g0]; rfl
        rw [hD, g3]
        exact get_drop (by rw [← g2, ← hE]; exact g1)
      have H0 := hid h0
      have H3 := hid h3
      have HLEN : Hid (L1.length = if kd r = 0 ∧ E = 0 then L.length + 1 else L.length) := hlen
      have HID := hid hw.id
      have HKD : Hid (kd r = r.k.tmod 6) := rfl
      clear hr hw hD hT hok hL hL1 hN hE h0 h3 hlen
      have hrange : (L.length : Int) ≤ 80 := by omega
      go_wp2_with fail
      refine C.out.mono ?_
      rintro e w4 ⟨rfl, h4⟩
      have H4 := hid h4
      obtain ⟨c0, c1⟩ := HAT.out w4 h4
      clear h4 C k0 k1 k2 k3 k4 k5
      by_cases q0 : r.k.tmod 6 = 0
      · have d2 : (r.k.tmod 6 == 0) = true := by simpa using q0
        have d3 : (r.k.tmod 6 == 3) = false := by rw [q0]; rfl
        have hq : kd r = 0 := by rw [HKD.out]; exact q0
        by_cases he : E = 0
        · have hn := H0.out hq he
          have HE := hid (show L1.length = L.length + 1 by rw [HLEN.out, if_pos ⟨hq, he⟩])
          subst hn
          subst he
          have d4 : ((L.length : Int) != (L.length : Int)) = false := by simp
          clear hq q0
          go_wp2_with fail
          exact ⟨⟨i + 1, by omega, by go_num, by rw [← HL1.out, HE.out]; go_num, by rw [← HL1.out]; exact H4.out⟩, by simp [intOf]; omega⟩
        · have HE := hid (show L1.length = L.length by rw [HLEN.out, if_neg (fun h => he h.2)])
          have d4 : (E == 0) = false := by simpa using he
          clear hq q0 he
          go_wp2_with fail
          exact ⟨⟨i + 1, by omega, by go_num, by rw [← HL1.out, HE.out], by rw [← HL1.out]; exact H4.out⟩, by simp [intOf]; omega⟩
      · have d2 : (r.k.tmod 6 == 0) = false := by simpa using q0
        have hq : kd r ≠ 0 := by rw [HKD.out]; exact q0
        have HE := hid (show L1.length = L.length by rw [HLEN.out, if_neg (fun h => hq h.1)])
        by_cases q3 : r.k.tmod 6 = 3
        · have d3 : (r.k.tmod 6 == 3) = true := by simpa using q3
          have hq3 : kd r = 3 := by rw [HKD.out]; exact q3
          by_cases he : E = 0
          · have hg := H3.out hq3 he
            obtain ⟨x, hx, C2⟩ := H4.out.get I HID.out
            rw [hg] at C2
            have HC2 := hid C2
            subst he
            clear hq hq3 q0 q3 hg hx C2
            go_wp2_with fail
            refine HC2.out.mono ?_
            rintro e w5 ⟨rfl, h5⟩
            have H6 := hid (h5.later I (below_alloc w5 (.cells #[.int .i64 x.kf, .int .i64 x.ki, .int .i64 x.pl, .int .i64 x.at', .int .i64 x.ow, .int .i64 x.rf, .int .i64 0, .bool false, .bool x.dr] 45)))
            clear h5 HC2 c0 c1
            go_wp2_with fail
            exact ⟨⟨i + 1, by omega, by go_num, by rw [← HL1.out, HE.out], by rw [← HL1.out]; exact H6.out⟩, by simp [intOf]; omega⟩
          · have d4 : (E == 0) = false := by simpa using he
            clear hq hq3 q0 q3 he
            go_wp2_with fail
            exact ⟨⟨i + 1, by omega, by go_num, by rw [← HL1.out, HE.out], by rw [← HL1.out]; exact H4.out⟩, by simp [intOf]; omega⟩
        · have d3 : (r.k.tmod 6 == 3) = false := by simpa using q3
          clear hq q0 q3
          go_wp2_with fail
          exact ⟨⟨i + 1, by omega, by go_num, by rw [← HL1.out, HE.out], by rw [← HL1.out]; exact H4.out⟩, by simp [intOf]; omega⟩
    · obtain rfl : i = l.length := by omega
      have d0 : decide ((l.length : Int) < (l.length : Int)) = false := by simp
      obtain ⟨L, hL⟩ : ∃ L, L = dL l l.length := ⟨_, rfl⟩
      rw [← hL] at hT hdl
      rw [← hL]
      have C := hid (hT.all I (by omega))
      have hn := idsL_len L (anyP true 0)
      have hat : ∀ j, j < (idsL L (anyP true 0)).length → (idsL L (anyP true 0)).getD j 0 < (L.length : Int) := by
        intro j hj
        obtain ⟨k, hk, e, -⟩ := idAt_is hj
        have : (idsL L (anyP true 0)).getD j 0 = (k : Nat) := e
        rw [this]
        omega
      obtain ⟨N, hN⟩ : ∃ N, N = idsL L (anyP true 0) := ⟨_, rfl⟩
      rw [← hN] at C hn hat
      have HAt := hid hat
      clear hL hT hlt hok hN hat
      have dl : decide ((N.length : Int) ≤ (L.length : Int)) = true := by simp; omega
      go_wp2_with fail
      refine C.out.mono ?_
      rintro e w5 ⟨a5, c5, rfl, hI, -, h5, -⟩
      have HB := hid (HB1.out.trans ((h5.bel I).mono HB1.out.size))
      clear C h5
      by_cases h0 : N.length = 0
      · have e0 : ((N.length : Int) == 0) = true := by simp [h0]
        clear hI
        go_wp2_with fail
        go_ret
        exact ⟨rfl, HB.out⟩
      · have e0 : ((N.length : Int) == 0) = false := by rw [beq_eq_false_iff_ne]; omega
        obtain ⟨bI, oI, rfl, ci⟩ := hI.at' (N.length - 1) (by omega)
        have hz := HAt.out (N.length - 1) (by omega)
        obtain ⟨z, hzz⟩ : ∃ z, z = N.getD (N.length - 1) 0 := ⟨_, rfl⟩
        rw [← hzz] at ci hz
        have dz : decide (z < (L.length : Int)) = true := by simpa using hz
        have hml : N.length - 1 < N.length := by omega
        clear hI hzz hz
        go_wp2_with fail
        go_ret
        exact ⟨rfl, HB.out⟩
theorem ids_walk (I : TbI Tb) (a : Option Addr) (cap : Nat) (l : List Ac) (w : World) (hc : ActsAt w a l) :
    Calls Try.prog 7 #[.slice a l.length cap] w fun e w' => e = .returned (.bool true) ∧ Below w.heap.size w w' := by
  by_cases h : l.length ≤ 80
  · exact ids_in I a cap l w hc h
  · exact ids_out I a cap l.length w (by simp only [decide_eq_true_eq]; omega)
end
end Go.Proofs.Ytponlldgnlckfaa
