/-
  The law PagesOnce walked.
-/
import Derived.Test.YtponlldgnlckfaaSt
import Derived.BigQuiet
import Derived.Deep.CutBlock
import Derived.Deep.DeepCutAuto
namespace Go.Proofs.Ytponlldgnlckfaa
open Go.RowKit

theorem wf_id {L : List Pg} (hL : L.length < 900000) {k : Nat} (hk : k < L.length) : (Lit.int .i64 (k : Int)).wf = true := WalkArith.wf_i64 (by omega)
/-- Whether one is among the first i. -/
def seen (T : List Int) (z : Int) (i : Nat) : Bool := (T.take i).any fun x => x == z
theorem seen_zero (T : List Int) (z : Int) : seen T z 0 = false := rfl
theorem seen_succ (T : List Int) (z : Int) {i : Nat} (h : i < T.length) : seen T z (i + 1) = (seen T z i || T.getD i 0 == z) := by
  unfold seen
  rw [List.take_succ_eq_append_getElem h, List.any_append]
  simp [h]
theorem seen_all {T : List Int} {z : Int} (h : z ∈ T) : seen T z T.length = true := by
  unfold seen
  rw [List.take_length, List.any_eq_true]
  exact ⟨z, h, by simp⟩

theorem Ints.cellAt {w : World} {g o : Nat} {N : List Int} (h : Ints w (some ⟨g, o, none⟩) N) {j : Nat} (hj : j < N.length) : w.cell? ⟨g, o + j, none⟩ = some (.int .i64 (N.getD j 0)) := by
  obtain ⟨b, off, e, h1⟩ := h.at' j hj
  have e2 := Option.some.inj e
  injection e2 with e3 e4
  subst e3
  subst e4
  exact h1

section
variable {Tb : World → World → Nat → (Nat → Prop) → List Pg → Prop}
set_option maxRecDepth 100000 in
set_option maxHeartbeats 8000000 in
theorem once_out (I : TbI Tb) (a : Option Addr) (cap n : Nat) (w : World) (h : decide ((80 : Int) < (n : Int)) = true) :
    Calls Try.prog 4 #[.slice a n cap] w fun e w' => e = .returned (.bool true) ∧ Below w.heap.size w w' := by
  have HW := hid (fun w => works_any I w)
  go_enter Try.func4, Try.ntmps4
  go_wp2_with (go_at_call 10; refine (HW.out _).mono ?_; rintro e w1 ⟨rfl, hb⟩)
  go_ret
  exact ⟨rfl, hb⟩

set_option maxRecDepth 100000 in
set_option maxHeartbeats 8000000 in
theorem once_in (I : TbI Tb) (a : Option Addr) (cap : Nat) (l : List Ac) (w : World) (hc : ActsAt w a l) (hl : l.length ≤ 80) :
    Calls Try.prog 4 #[.slice a l.length cap] w fun e w' => e = .returned (.bool true) ∧ Below w.heap.size w w' := by
  have d1 : decide ((80 : Int) < (l.length : Int)) = false := by simp; omega
  have HC := hid hc
  clear hc
  go_enter Try.func4, Try.ntmps4
  go_wp2_with fail
  refine (works_any I _).mono ?_
  rintro e w1 ⟨rfl, hb1⟩
  have HB1 := hid hb1
  clear hb1
  go_wp2_with fail
  refine (St.new I (Below.refl _ w1)).mono ?_
  rintro e w2 ⟨t, rfl, h2⟩
  have H2 := hid h2
  clear h2 d1
  go_wp2_with fail
  go_loopw [5] (fun s5 wr => ∃ i : Nat, i ≤ l.length ∧ s5 = .int .i64 i ∧ St Tb w1 wr t (dL l i) []) (fun s5 _ => l.length - (intOf s5).toNat)
  case atStart => exact ⟨0, by omega, rfl, H2.out⟩
  case round =>
    clear H2
    obtain ⟨i, hi, rfl, hT⟩ := hrel
    have hdl := dL_len l i hi
    have hok := dL_ok l i hi
    by_cases hlt : i < l.length
    · have d0 : decide ((i : Int) < (l.length : Int)) = true := by simp; omega
      obtain ⟨b, off, rfl, k0, k1, k2, k3, k4, k5, hw⟩ := ((HC.out.below HB1.out).below (hT.bel I)).at hlt
      have hD := dL_succ l i hlt
      obtain ⟨r, hr⟩ : ∃ r, r = l[i] := ⟨_, rfl⟩
      rw [← hr] at k0 k1 k2 k3 k4 k5 hw hD
      have C := hid (hT.doI I hok (by omega) (by omega) r hw)
      rw [← hD] at C
      clear hr hw hD hT hok hdl
      go_wp2_with fail
      refine C.out.mono ?_
      rintro e w4 ⟨rfl, h4⟩
      have H4 := hid h4
      clear h4 C
      go_wp2_with fail
      exact ⟨⟨i + 1, by omega, by go_num, H4.out⟩, by simp [intOf]; omega⟩
    · obtain rfl : i = l.length := by omega
      have d0 : decide ((l.length : Int) < (l.length : Int)) = false := by simp
      obtain ⟨L, hL⟩ : ∃ L, L = dL l l.length := ⟨_, rfl⟩
      have hbd := dL_bd l HC.out.w (by omega) l.length (Nat.le_refl _)
      rw [← hL] at hT hok hdl hbd
      have HBD := hid hbd
      have HL := hid (show L.length < 900000 by omega)
      have HK := hid (hok.more (show (1000 * l.length : Int) ≤ 100000 by omega))
      obtain ⟨⟨S, hS, -⟩, -⟩ := hT
      have C := I.all hS HL.out
      have hn := idsL_len L (anyP true 0)
      have hat := fun j => @idAt_is L (anyP true 0) j
      have hrise := fun i j => @idAt_lt L (anyP true 0) i j
      unfold idAt at hat hrise
      obtain ⟨N, hN⟩ : ∃ N, N = idsL L (anyP true 0) := ⟨_, rfl⟩
      rw [← hN] at C hn hat hrise
      have HAT := hid hat
      have HRISE := hid hrise
      have HC1 := hid C
      have HTS := hid hS
      have hNl : N.length ≤ 80 := by omega
      have HNL := hid hNl
      clear hL hok hdl hlt hS C hn hN hat hrise hbd
      go_wp2_with fail
      refine HC1.out.mono ?_
      rintro e w5 ⟨a5, c5, rfl, hI, -, hb5⟩
      have HI5 := hid hI
      have hT5 := I.later HTS.out hb5
      have HT5 := hid hT5
      have HB15 := hid (I.bel hT5)
      clear hI hb5 HC1 HTS hT5 hi
      go_wp2_with fail
      go_loopw [7, 8, 9, 10, 11, 12, 13, 14, 15] (fun s7 _ _ _ _ _ _ _ _ wq => ∃ j : Nat, j ≤ N.length ∧ s7 = .int .i64 j ∧ Below w5.heap.size w5 wq) (fun s7 _ _ _ _ _ _ _ _ _ => N.length - (intOf s7).toNat)
      case atStart => exact ⟨0, by omega, rfl, Below.refl _ _⟩
      case round =>
        obtain ⟨j, hj, rfl, hbq⟩ := hrel
        have HBQ := hid hbq
        have hTq := I.later HT5.out hbq
        have hIq := HI5.out.later hbq
        by_cases hjl : j < N.length
        · have d2 : decide ((j : Int) < (N.length : Int)) = true := by simp; omega
          obtain ⟨g, o, rfl, cj⟩ := hIq.at' j hjl
          obtain ⟨k0, hk0, hz, hg0, -⟩ := HAT.out j hjl
          have C2 := I.get hTq (wf_id HL.out hk0)
          rw [getL_nat hk0 hg0, getE_has.2 ((has_nat L k0).2 ⟨hk0, hg0⟩)] at C2
          rw [hz] at cj
          obtain ⟨y, hy⟩ : ∃ y, y = pg L k0 := ⟨_, rfl⟩
          rw [← hy] at C2
          have HC2 : Hid (Calls Try.prog 19 #[.pointer (some ⟨t, 0, none⟩), .int .i64 k0] wr fun e w' => e = .returned (.tuple #[.agg #[.int .i64 y.kf, .int .i64 y.ki, .int .i64 y.pl, .int .i64 y.at', .int .i64 y.ow, .int .i64 y.rf, .int .i64 0, .bool false, .bool y.dr], .int .i64 0]) ∧ Below wr.heap.size wr w') := C2
          have HY := hid hy
          have HK0 := hid hk0
          have HG0 := hid hg0
          have HZ := hid hz
          clear C2 hy hk0 hg0 hz hTq hIq hbq
          go_wp2_with fail
          refine HC2.out.mono ?_
          rintro e w6 ⟨rfl, hb6⟩
          have hbx := RowAt.new w6 (pc y) 45
          have hb7 := bel_trans (bel_trans HBQ.out hb6 (Nat.le_refl _)) (below_alloc w6 (.cells (pc y) 45)) (Nat.le_refl _)
          obtain ⟨w7, hw7⟩ : ∃ w7, w7 = w6.alloc (.cells (pc y) 45) := ⟨_, rfl⟩
          rw [← hw7] at hbx hb7
          have hw7' : w7 = w6.alloc (.cells #[.int .i64 y.kf, .int .i64 y.ki, .int .i64 y.pl, .int .i64 y.at', .int .i64 y.ow, .int .i64 y.rf, .int .i64 0, .bool false, .bool y.dr] 45) := hw7
          obtain ⟨q7, hq7⟩ : ∃ q, q = w6.heap.size := ⟨_, rfl⟩
          rw [← hq7] at hbx
          have HW7 := hid hw7'
          have HQ7 := hid hq7
          have HB7 := hid hb7
          have HBX := hid hbx
          have HI7 := hid (HI5.out.later hb7)
          have HT7 := hid (I.later HT5.out hb7)
          clear hb6 hbx hb7 hw7 hw7' hq7 HC2 cj
          go_upto_region 16 with fail
          rw [← HW7.out, ← HQ7.out]
          have hrf := HK.out.refs k0 HK0.out
          rw [← HY.out] at hrf
          have c5 : w7.cell? ⟨q7, 5, none⟩ = some (.int .i64 y.rf) := (page_cells HBX.out).2.2.2.2.2.1
          have dr : decide (y.rf < 0) = false := by simp; omega
          have cj := HI7.out.cellAt hjl
          rw [HZ.out] at cj
          clear hrf
          go_cut [75] (fun s75 wx => s75 = .bool false ∧ Below w7.heap.size w7 wx)
          case first =>
            by_cases hj0 : 0 < j
            · obtain ⟨m, rfl⟩ : ∃ m, j = m + 1 := ⟨j - 1, by omega⟩
              have d0 : decide ((0 : Int) < ((m + 1 : Nat) : Int)) = true := decide_eq_true (by omega)
              have hml : m < N.length := by omega
              have cm := HI7.out.cellAt hml
              have hlt := HRISE.out m (m + 1) hjl (by omega)
              rw [HZ.out] at hlt
              obtain ⟨z, hzz⟩ : ∃ z, z = N.getD m 0 := ⟨_, rfl⟩
              rw [← hzz] at cm hlt
              have dz : decide (z ≥ (k0 : Int)) = false := by simp; omega
              have dz2 : decide ((k0 : Int) ≤ z) = false := by simp; omega
              clear hzz hlt
              go_quiet (fail)
              go_wp2_with fail
              go_meet
              exact ⟨rfl, below_drawn (Below.refl _ _) _⟩
            · have d0 : decide ((0 : Int) < (j : Int)) = false := decide_eq_false (by omega)
              go_quiet (fail)
              go_wp2_with fail
              go_meet
              exact ⟨rfl, below_drawn (Below.refl _ _) _⟩
          case rest =>
            obtain ⟨rfl, hbc⟩ := hcut
            have HBC := hid hbc
            have hrg := HBD.out k0 HK0.out
            rw [← HY.out] at hrg
            have HRG := hid hrg
            clear hbc hrg c5 dr cj d2
            go_upto_region 18 with fail
            go_cut [108] (fun s108 wx => s108 = .bool false ∧ Below w7.heap.size w7 wx)
            case first =>
              have hbx := HBX.out.below HBC.out HBX.out.lt
              obtain ⟨p0, p1, p2, p3, -⟩ := page_cells hbx
              have cj := (HI7.out.later HBC.out).cellAt hjl
              rw [HZ.out] at cj
              have hTc := I.later HT7.out HBC.out
              have KA : Hid (y.pl ≠ 0 → ∀ q : Up wc, Calls Try.prog 23 #[.pointer (some ⟨t, 0, none⟩), .int .i64 y.pl, .int .i64 y.at'] q.p fun e w' => e = .returned (.int .i64 k0) ∧ Below q.p.heap.size q.p w') := by
                intro hp q
                have := I.att (I.later hTc q.h) (wf_of HRG.out.pl) (wf_of HRG.out.at')
                rw [HY.out] at this hp ⊢
                rwa [at_is HK.out HK0.out HG0.out hp] at this
              have KO : Hid (0 ≤ y.kf → ∀ q : Up wc, Calls Try.prog 21 #[.pointer (some ⟨t, 0, none⟩), .agg #[.int .i64 y.kf, .int .i64 y.ki]] q.p fun e w' => e = .returned (.int .i64 k0) ∧ Below q.p.heap.size q.p w') := by
                intro hp q
                have := I.of (I.later hTc q.h) (wf_of HRG.out.kf) (wf_of HRG.out.ki)
                rw [HY.out] at this hp ⊢
                rwa [of_is HK.out HK0.out HG0.out hp] at this
              have z1 : ((k0 : Int) != (k0 : Int)) = false := by simp
              have l0 := Up.cell p0
              have l1 := Up.cell p1
              have l2 := Up.cell p2
              have l3 := Up.cell p3
              have lj := Up.cell cj
              have hne := Up.any wc
              clear hbx p0 p1 p2 p3 cj hTc
              by_cases hp : y.pl = 0
              · have dp : (y.pl != 0) = false := by simpa using hp
                by_cases hf : 0 ≤ y.kf
                · have df : decide (y.kf ≥ 0) = true := by simpa using hf
                  have df2 : decide (0 ≤ y.kf) = true := by simpa using hf
                  have K2 := hid (KO.out hf)
                  clear hp hf
                  refine wp_region_up (by kernel_rfl) (by kernel_rfl) ?_
                  repeat (go_big_quiet_step (first | (go_at_call 21; exact Up.call (K2.out _))))
                  refine wpQuiet_nil ?_
                  intro w17 hw'
                  obtain ⟨⟨_, hbw⟩, rfl⟩ := hw'
                  have HBW := hid (bel_trans HBC.out hbw (Nat.le_refl _))
                  clear l0 l1 l2 l3 lj hne hbw
                  go_wp2_with fail
                  go_meet
                  exact ⟨rfl, HBW.out⟩
                · have df : decide (y.kf ≥ 0) = false := by simpa using hf
                  have df2 : decide (0 ≤ y.kf) = false := by simpa using hf
                  clear hp hf
                  refine wp_region_up (by kernel_rfl) (by kernel_rfl) ?_
                  repeat (go_big_quiet_step (fail))
                  refine wpQuiet_nil ?_
                  intro w17 hw'
                  obtain ⟨⟨_, hbw⟩, rfl⟩ := hw'
                  have HBW := hid (bel_trans HBC.out hbw (Nat.le_refl _))
                  clear l0 l1 l2 l3 lj hne hbw
                  go_wp2_with fail
                  go_meet
                  exact ⟨rfl, HBW.out⟩
              · have dp : (y.pl != 0) = true := by simpa using hp
                have K1 := hid (KA.out hp)
                by_cases hf : 0 ≤ y.kf
                · have df : decide (y.kf ≥ 0) = true := by simpa using hf
                  have df2 : decide (0 ≤ y.kf) = true := by simpa using hf
                  have K2 := hid (KO.out hf)
                  clear hp hf
                  refine wp_region_up (by kernel_rfl) (by kernel_rfl) ?_
                  repeat (go_big_quiet_step (first | (go_at_call 23; exact Up.call (K1.out _)) | (go_at_call 21; exact Up.call (K2.out _))))
                  refine wpQuiet_nil ?_
                  intro w17 hw'
                  obtain ⟨⟨_, hbw⟩, rfl⟩ := hw'
                  have HBW := hid (bel_trans HBC.out hbw (Nat.le_refl _))
                  clear l0 l1 l2 l3 lj hne hbw
                  go_wp2_with fail
                  go_meet
                  exact ⟨rfl, HBW.out⟩
                · have df : decide (y.kf ≥ 0) = false := by simpa using hf
                  have df2 : decide (0 ≤ y.kf) = false := by simpa using hf
                  clear hp hf
                  refine wp_region_up (by kernel_rfl) (by kernel_rfl) ?_
                  repeat (go_big_quiet_step (first | (go_at_call 23; exact Up.call (K1.out _))))
                  refine wpQuiet_nil ?_
                  intro w17 hw'
                  obtain ⟨⟨_, hbw⟩, rfl⟩ := hw'
                  have HBW := hid (bel_trans HBC.out hbw (Nat.le_refl _))
                  clear l0 l1 l2 l3 lj hne hbw
                  go_wp2_with fail
                  go_meet
                  exact ⟨rfl, HBW.out⟩
            case rest =>
              obtain ⟨rfl, hbd'⟩ := hcut
              obtain ⟨w8, hw8⟩ : ∃ w8, w8 = wc := ⟨_, rfl⟩
              rw [← hw8] at hbd'
              rw [← hw8]
              have HB8 := hid hbd'
              have HBX8 := hid (HBX.out.below hbd' HBX.out.lt)
              have HI8 := hid (HI7.out.later hbd')
              have HT8 := hid (I.later HT7.out hbd')
              have HB58 := hid (bel_trans HB7.out hbd' (Nat.le_refl _))
              clear hw8 hbd'
              go_wp2_with fail
              go_loopw [10, 11, 12] (fun s10 _ _ wk => ∃ k : Nat, k ≤ j ∧ s10 = .int .i64 k ∧ Below w8.heap.size w8 wk) (fun s10 _ _ _ => j - (intOf s10).toNat)
              case atStart => exact ⟨0, by omega, rfl, Below.refl _ _⟩
              case round =>
                obtain ⟨k, hk, rfl, hbk⟩ := hrel
                have HBK := hid hbk
                by_cases hkj : k < j
                · have d3 : decide ((k : Int) < (j : Int)) = true := by simp; omega
                  have hkN : k < N.length := by omega
                  have ck := (HI8.out.later hbk).cellAt hkN
                  obtain ⟨m0, hm0, hzm, hgm, -⟩ := HAT.out k hkN
                  have hTk := I.later HT8.out hbk
                  have C3 := I.get hTk (wf_id HL.out hm0)
                  rw [getL_nat hm0 hgm, getE_has.2 ((has_nat L m0).2 ⟨hm0, hgm⟩)] at C3
                  have hlt := HRISE.out k j hjl hkj
                  rw [HZ.out, hzm] at hlt
                  rw [hzm] at ck
                  have hne : m0 ≠ k0 := by omega
                  have hkey := HK.out.keys m0 k0 hm0 HK0.out hne hgm HG0.out
                  have hspot := HK.out.spots m0 k0 hm0 HK0.out hne hgm HG0.out
                  obtain ⟨x, hx⟩ : ∃ x, x = pg L m0 := ⟨_, rfl⟩
                  rw [← hx] at C3
                  rw [← hx, ← HY.out] at hkey hspot
                  have HC3 : Hid (Calls Try.prog 19 #[.pointer (some ⟨t, 0, none⟩), .int .i64 m0] wr fun e w' => e = .returned (.tuple #[.agg #[.int .i64 x.kf, .int .i64 x.ki, .int .i64 x.pl, .int .i64 x.at', .int .i64 x.ow, .int .i64 x.rf, .int .i64 0, .bool false, .bool x.dr], .int .i64 0]) ∧ Below wr.heap.size wr w') := C3
                  have HSP := hid hspot
                  have HKEY := hid hkey
                  clear C3 hx hm0 hzm hgm hTk hlt hne hkey hspot hbk
                  go_wp2_with fail
                  refine HC3.out.mono ?_
                  rintro e w9 ⟨rfl, hb9⟩
                  have hbx := RowAt.new w9 (pc x) 45
                  have hb10 := bel_trans (bel_trans HBK.out hb9 (Nat.le_refl _)) (below_alloc w9 (.cells (pc x) 45)) (Nat.le_refl _)
                  obtain ⟨w10, hw10⟩ : ∃ w10, w10 = w9.alloc (.cells (pc x) 45) := ⟨_, rfl⟩
                  rw [← hw10] at hbx hb10
                  have hw10' : w10 = w9.alloc (.cells #[.int .i64 x.kf, .int .i64 x.ki, .int .i64 x.pl, .int .i64 x.at', .int .i64 x.ow, .int .i64 x.rf, .int .i64 0, .bool false, .bool x.dr] 45) := hw10
                  obtain ⟨q9, hq9⟩ : ∃ q, q = w9.heap.size := ⟨_, rfl⟩
                  rw [← hq9] at hbx
                  have HW10 := hid hw10'
                  have HQ9 := hid hq9
                  have HB10 := hid hb10
                  obtain ⟨x0, x1, x2, x3, -⟩ := page_cells hbx
                  obtain ⟨y0, y1, y2, y3, -⟩ := page_cells (HBX8.out.below hb10 HBX8.out.lt)
                  have hgt := guard24
                  have hqq := fun w => eq24 x.kf x.ki y.kf y.ki w
                  have hkf : (x.kf == y.kf && x.ki == y.ki) = false := by
                    cases hq : (x.kf == y.kf && x.ki == y.ki)
                    · rfl
                    · simp at hq; exact absurd hq HKEY.out
                  rw [hkf] at hqq
                  clear hb9 hbx hb10 hw10 hw10' hq9 HC3 ck hkf
                  go_upto_region 24 with fail
                  rw [← HW10.out, ← HQ9.out]
                  by_cases hp : x.pl = 0
                  · have e1 : (x.pl != 0) = false := by simpa using hp
                    clear hp
                    go_wp2_with fail
                    exact ⟨⟨k + 1, by omega, by go_num, HB10.out⟩, by simp [intOf]; omega⟩
                  · have e1 : (x.pl != 0) = true := by simpa using hp
                    have hs := HSP.out hp
                    by_cases hp2 : x.pl = y.pl
                    · have e2 : (x.pl == y.pl) = true := by simpa using hp2
                      have e3 : (x.at' == y.at') = false := by simpa using fun h => hs ⟨hp2, h⟩
                      clear hp hp2 hs
                      go_wp2_with fail
                      exact ⟨⟨k + 1, by omega, by go_num, HB10.out⟩, by simp [intOf]; omega⟩
                    · have e2 : (x.pl == y.pl) = false := by simpa using hp2
                      clear hp hp2 hs
                      go_wp2_with fail
                      exact ⟨⟨k + 1, by omega, by go_num, HB10.out⟩, by simp [intOf]; omega⟩
                · obtain rfl : k = j := by omega
                  have d3 : decide ((k : Int) < (k : Int)) = false := by simp
                  have hTk := I.later HT8.out hbk
                  have hbx := HBX8.out.below hbk HBX8.out.lt
                  have y4 := (page_cells hbx).2.2.2.2.1
                  have C4 := I.those hTk HL.out (o := y.ow) (wf_of HRG.out.ow)
                  have hmem : (k0 : Int) ∈ idsL L (anyP false y.ow) := (ids_mem L _ _ _).2 ⟨k0, HK0.out, rfl, HG0.out, by rw [← HY.out]; simp [anyP]⟩
                  have hTl := idsL_len L (anyP false y.ow)
                  have hll := HL.out
                  obtain ⟨T, hT'⟩ : ∃ T, T = idsL L (anyP false y.ow) := ⟨_, rfl⟩
                  rw [← hT'] at C4 hmem hTl
                  have HMEM := hid (seen_all hmem)
                  have HTL := hid (show T.length < 900000 by omega)
                  have HC4 := hid C4
                  have HBK2 := hid hbk
                  clear hTk hbx C4 hmem hTl hll hT' hbk HBK
                  go_wp2_with fail
                  refine HC4.out.mono ?_
                  rintro e w11 ⟨a8, c8, rfl, hI11, -, hb11⟩
                  have HI11 := hid hI11
                  have hb811 := bel_trans HBK2.out hb11 (Nat.le_refl _)
                  have HI811 := hid (HI8.out.later hb811)
                  have HB11 := hid (bel_trans HB58.out hb811 (Nat.le_refl _))
                  clear hI11 hb11 hb811 HC4 y4
                  go_wp2_with fail
                  go_loopw [13, 15] (fun s13 s15 wk => ∃ i : Nat, i ≤ T.length ∧ s15 = .int .i64 i ∧ s13 = .bool (seen T k0 i) ∧ Below w11.heap.size w11 wk) (fun _ s15 _ => T.length - (intOf s15).toNat)
                  case atStart => exact ⟨0, by omega, rfl, rfl, Below.refl _ _⟩
                  case round =>
                    obtain ⟨i, hi, rfl, rfl, hbi⟩ := hrel
                    have HBI := hid hbi
                    by_cases hiT : i < T.length
                    · have d5 : decide ((i : Int) < (T.length : Int)) = true := by simp; omega
                      have htl := HTL.out
                      have hs := seen_succ T k0 hiT
                      obtain ⟨b, hb⟩ : ∃ b, b = seen T k0 i := ⟨_, rfl⟩
                      rw [← hb] at hs
                      rw [← hb]
                      obtain ⟨g8, o8, rfl, ci⟩ := (HI11.out.later hbi).at' i hiT
                      have cj := (HI811.out.later hbi).cellAt hjl
                      rw [HZ.out] at cj
                      obtain ⟨v, hv⟩ : ∃ v, v = T.getD i 0 := ⟨_, rfl⟩
                      rw [← hv] at ci hs
                      have HS := hid hs
                      clear hs hb hv hbi
                      cases b with
                      | true =>
                        go_wp2_with fail
                        go_quiet (fail)
                        go_wp2_with fail
                        exact ⟨⟨i + 1, by omega, by go_num, by rw [HS.out]; rfl, below_drawn HBI.out _⟩, by simp [intOf]; omega⟩
                      | false =>
                        cases hq : (v == (k0 : Int)) with
                        | true =>
                          rw [hq] at HS
                          go_wp2_with fail
                          go_quiet (fail)
                          go_wp2_with fail
                          exact ⟨⟨i + 1, by omega, by go_num, by rw [HS.out]; rfl, below_drawn HBI.out _⟩, by simp [intOf]; omega⟩
                        | false =>
                          rw [hq] at HS
                          go_wp2_with fail
                          go_quiet (fail)
                          go_wp2_with fail
                          exact ⟨⟨i + 1, by omega, by go_num, by rw [HS.out]; rfl, below_drawn HBI.out _⟩, by simp [intOf]; omega⟩
                    · obtain rfl : i = T.length := by omega
                      have d5 : decide ((T.length : Int) < (T.length : Int)) = false := by simp
                      have HBE := hid (bel_trans HB11.out hbi (Nat.le_refl _))
                      rw [HMEM.out]
                      clear hbi
                      go_wp2_with fail
                      exact ⟨⟨k + 1, by omega, by go_num, HBE.out⟩, by simp [intOf]; omega⟩
        · obtain rfl : j = N.length := by omega
          have d2 : decide ((N.length : Int) < (N.length : Int)) = false := by simp
          have hbe := (HB1.out.trans (HB15.out.mono HB1.out.size)).trans (HBQ.out.mono (Nat.le_trans HB1.out.size HB15.out.size))
          have HBE := hid hbe
          clear hTq hIq hbq hbe
          go_wp2_with fail
          go_ret
          exact ⟨rfl, HBE.out⟩
theorem once_walk (I : TbI Tb) (a : Option Addr) (cap : Nat) (l : List Ac) (w : World) (hc : ActsAt w a l) :
    Calls Try.prog 4 #[.slice a l.length cap] w fun e w' => e = .returned (.bool true) ∧ Below w.heap.size w w' := by
  by_cases h : l.length ≤ 80
  · exact once_in I a cap l w hc h
  · exact once_out I a cap l.length w (by simp only [decide_eq_true_eq]; omega)
end
end Go.Proofs.Ytponlldgnlckfaa
