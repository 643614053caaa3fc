/-
  The law PagesMoves walked.
-/
import Derived.Test.YtponlldgnlckfaaSt
import Derived.BigQuiet
import Derived.Deep.CutBlock
import Derived.Deep.DeepCutAuto
namespace Go.Proofs.Ytponlldgnlckfaa
open Go.RowKit

theorem page_cells3 {w : World} {q : Nat} {x : Pg} {p b : Int} (h : RowAt w q 45 (pc (putG p b x)).toList) : w.cell? ⟨q, 0, none⟩ = some (.int .i64 x.kf) ∧ w.cell? ⟨q, 1, none⟩ = some (.int .i64 x.ki) ∧ w.cell? ⟨q, 2, none⟩ = some (.int .i64 p) ∧ w.cell? ⟨q, 3, none⟩ = some (.int .i64 b) ∧ w.cell? ⟨q, 4, none⟩ = some (.int .i64 x.ow) ∧ w.cell? ⟨q, 5, none⟩ = some (.int .i64 x.rf) ∧ w.cell? ⟨q, 6, none⟩ = some (.int .i64 0) ∧ w.cell? ⟨q, 7, none⟩ = some (.bool false) ∧ w.cell? ⟨q, 8, none⟩ = some (.bool x.dr) := page_cells h
section
variable {Tb : World → World → Nat → (Nat → Prop) → List Pg → Prop}
set_option maxRecDepth 100000 in
set_option maxHeartbeats 8000000 in
theorem moves_out (I : TbI Tb) (a : Option Addr) (cap n : Nat) (id p b ot : Int) (w : World) (h : decide ((80 : Int) < (n : Int)) = true) :
    Calls Try.prog 6 #[.slice a n cap, .int .i64 id, .int .i64 p, .int .i64 b, .int .i64 ot] w fun e w' => e = .returned (.bool true) ∧ Below w.heap.size w w' := by
  have HW := hid (fun w => works_any I w)
  go_enter Try.func6, Try.ntmps6
  go_wp2_with (go_at_call 10; refine (HW.out _).mono ?_; rintro e w1 ⟨rfl, hb⟩)
  go_ret
  exact ⟨rfl, hb⟩

set_option maxRecDepth 100000 in
set_option maxHeartbeats 8000000 in
theorem moves_in (I : TbI Tb) (a : Option Addr) (cap : Nat) (l : List Ac) (id p b ot : Int) (w : World) (hc : ActsAt w a l) (hl : l.length ≤ 80) (hi : (Lit.int .i64 id).wf = true) (ho : (Lit.int .i64 p).wf = true) (hb : (Lit.int .i64 b).wf = true) (ht : (Lit.int .i64 ot).wf = true) :
    Calls Try.prog 6 #[.slice a l.length cap, .int .i64 id, .int .i64 p, .int .i64 b, .int .i64 ot] w fun e w' => e = .returned (.bool true) ∧ Below w.heap.size w w' := by
  have d1 : decide ((80 : Int) < (l.length : Int)) = false := by simp; omega
  have HC := hid hc
  have HI := hid hi
  have HO := hid ho
  have HBB := hid hb
  have HT := hid ht
  clear hc hi ho hb ht
  go_enter Try.func6, Try.ntmps6
  go_wp2_with fail
  refine (works_any I _).mono ?_
  rintro e w1 ⟨rfl, hb1⟩
  have HB1 := hid hb1
  clear hb1
  go_wp2_with fail
  refine (St.new I (Below.refl _ w1)).mono ?_
  rintro e w2 ⟨t, rfl, h2⟩
  have H2 := hid h2
  clear h2 d1
  go_wp2_with fail
  go_loopw [13] (fun s13 wr => ∃ i : Nat, i ≤ l.length ∧ s13 = .int .i64 i ∧ St Tb w1 wr t (dL l i) []) (fun s13 _ => l.length - (intOf s13).toNat)
  case atStart => exact ⟨0, by omega, rfl, H2.out⟩
  case round =>
    clear H2
    obtain ⟨i, hi, rfl, hT⟩ := hrel
    have hdl := dL_len l i hi
    have hok := dL_ok l i hi
    by_cases hlt : i < l.length
    · have d0 : decide ((i : Int) < (l.length : Int)) = true := by simp; omega
      obtain ⟨b, off, rfl, k0, k1, k2, k3, k4, k5, hw⟩ := ((HC.out.below HB1.out).below (hT.bel I)).at hlt
      have hD := dL_succ l i hlt
      obtain ⟨r, hr⟩ : ∃ r, r = l[i] := ⟨_, rfl⟩
      rw [← hr] at k0 k1 k2 k3 k4 k5 hw hD
      have C := hid (hT.doI I hok (by omega) (by omega) r hw)
      rw [← hD] at C
      clear hr hw hD hT hok hdl
      go_wp2_with fail
      refine C.out.mono ?_
      rintro e w4 ⟨rfl, h4⟩
      have H4 := hid h4
      clear h4 C
      go_wp2_with fail
      exact ⟨⟨i + 1, by omega, by go_num, H4.out⟩, by simp [intOf]; omega⟩
    · obtain rfl : i = l.length := by omega
      have d0 : decide ((l.length : Int) < (l.length : Int)) = false := by simp
      have hbd := dL_bd l HC.out.w (by omega) l.length (Nat.le_refl _)
      obtain ⟨L, hL⟩ : ∃ L, L = dL l l.length := ⟨_, rfl⟩
      rw [← hL] at hT hok hdl hbd
      have HBD := hid hbd
      have HL := hid (show L.length < 900000 by omega)
      have HK := hid (hok.more (show (1000 * l.length : Int) ≤ 100000 by omega))
      clear hL hok hdl hlt hbd
      obtain ⟨x, hx, C1⟩ := hT.get I HI.out
      have HX := hid hx
      have HC1 := hid C1
      clear hx C1 hT
      go_wp2_with fail
      refine HC1.out.mono ?_
      rintro e w5 ⟨rfl, h5⟩
      clear HC1
      obtain ⟨q1, hq1⟩ : ∃ q, q = w5.heap.size := ⟨_, rfl⟩
      obtain ⟨w6, hw6⟩ : ∃ w6, w6 = w5.alloc (.cells #[.int .i64 x.kf, .int .i64 x.ki, .int .i64 x.pl, .int .i64 x.at', .int .i64 x.ow, .int .i64 x.rf, .int .i64 0, .bool false, .bool x.dr] 45) := ⟨_, rfl⟩
      have h6 : St Tb w1 w6 t L [(q1, x)] := by rw [hw6, hq1]; exact h5.box I x
      obtain ⟨y, hy, C2⟩ := h6.get I HT.out
      have HY := hid hy
      have HC2 := hid C2
      have HQ1 := hid hq1
      have HW6 := hid hw6
      obtain ⟨E1, hE1⟩ : ∃ E, E = getE L id := ⟨_, rfl⟩
      rw [← hE1]
      have HE1 := hid hE1
      clear h5 hq1 hw6 h6 hy C2 hE1
      go_wp2_with fail
      rw [← HW6.out, ← HQ1.out]
      refine HC2.out.mono ?_
      rintro e w7 ⟨rfl, h7⟩
      clear HC2 HW6 HQ1
      obtain ⟨q2, hq2⟩ : ∃ q, q = w7.heap.size := ⟨_, rfl⟩
      obtain ⟨w8, hw8⟩ : ∃ w8, w8 = w7.alloc (.cells #[.int .i64 y.kf, .int .i64 y.ki, .int .i64 y.pl, .int .i64 y.at', .int .i64 y.ow, .int .i64 y.rf, .int .i64 0, .bool false, .bool y.dr] 45) := ⟨_, rfl⟩
      have h8 : St Tb w1 w8 t L [(q2, y), (q1, x)] := by rw [hw8, hq2]; exact h7.box I y
      have HC3 := hid (h8.put I HK.out (by omega) HL.out HI.out HO.out HBB.out)
      have HQ2 := hid hq2
      have HW8 := hid hw8
      obtain ⟨E2, hE2⟩ : ∃ E, E = getE L ot := ⟨_, rfl⟩
      rw [← hE2]
      clear h7 hq2 hw8 h8 hE2
      go_wp2_with fail
      rw [← HW8.out, ← HQ2.out]
      refine HC3.out.mono ?_
      rintro e w9 ⟨rfl, h9⟩
      clear HC3 HW8 HQ2
      obtain ⟨L2, hL2⟩ : ∃ K, K = putL L id p b := ⟨_, rfl⟩
      rw [← hL2] at h9
      obtain ⟨E3, hE3⟩ : ∃ E, E = putE L id p b := ⟨_, rfl⟩
      rw [← hE3]
      have HE3 := hid hE3
      have HL2 := hid hL2
      obtain ⟨z, hz, C5⟩ := h9.get I HI.out
      have HZ := hid hz
      have HC5 := hid C5
      clear h9 hL2 hE3 hz C5
      go_wp2_with fail
      refine HC5.out.mono ?_
      rintro e w11 ⟨rfl, h11⟩
      clear HC5
      obtain ⟨q3, hq3⟩ : ∃ q, q = w11.heap.size := ⟨_, rfl⟩
      obtain ⟨w12, hw12⟩ : ∃ w12, w12 = w11.alloc (.cells #[.int .i64 z.kf, .int .i64 z.ki, .int .i64 z.pl, .int .i64 z.at', .int .i64 z.ow, .int .i64 z.rf, .int .i64 0, .bool false, .bool z.dr] 45) := ⟨_, rfl⟩
      have h12 : St Tb w1 w12 t L2 [(q3, z), (q2, y), (q1, x)] := by rw [hw12, hq3]; exact h11.box I z
      obtain ⟨v, hv, C6⟩ := h12.get I HT.out
      have HV := hid hv
      have HC6 := hid C6
      have HQ3 := hid hq3
      have HW12 := hid hw12
      obtain ⟨E4, hE4⟩ : ∃ E, E = getE L2 id := ⟨_, rfl⟩
      rw [← hE4]
      clear h11 hq3 hw12 h12 hv C6 hE4
      go_wp2_with fail
      rw [← HW12.out, ← HQ3.out]
      refine HC6.out.mono ?_
      rintro e w13 ⟨rfl, h13⟩
      clear HC6 HW12 HQ3
      obtain ⟨q4, hq4⟩ : ∃ q, q = w13.heap.size := ⟨_, rfl⟩
      obtain ⟨w14, hw14⟩ : ∃ w14, w14 = w13.alloc (.cells #[.int .i64 v.kf, .int .i64 v.ki, .int .i64 v.pl, .int .i64 v.at', .int .i64 v.ow, .int .i64 v.rf, .int .i64 0, .bool false, .bool v.dr] 45) := ⟨_, rfl⟩
      have h14 : St Tb w1 w14 t L2 [(q4, v), (q3, z), (q2, y), (q1, x)] := by rw [hw14, hq4]; exact h13.box I v
      obtain ⟨E5, hE5⟩ : ∃ E, E = getE L2 ot := ⟨_, rfl⟩
      rw [← hE5]
      have HB := hid (h14.bel I)
      have HST := hid h14
      have HQ4 := hid hq4
      have HW14 := hid hw14
      obtain ⟨⟨S, -, hbx⟩, -⟩ := h14
      have r1 := (hbx (q1, x) (by simp)).1
      have r2 := (hbx (q2, y) (by simp)).1
      have r3 := (hbx (q3, z) (by simp)).1
      have r4 := (hbx (q4, v) (by simp)).1
      have HR1 := hid r1
      have HR2 := hid r2
      have HR3 := hid r3
      have HR4 := hid r4
      clear h13 hq4 hw14 hE5 hbx r1 r2 r3 r4
      by_cases h0 : E3 = 0
      · subst h0
        have hput : putE L id p b = 0 := HE3.out.symm
        obtain ⟨hh, hbad, -⟩ := put_ok hput
        have e1 : E1 = 0 := by rw [HE1.out]; unfold getE; rw [hh]; rfl
        have gz : z = putG p b x := by rw [HZ.out, HL2.out, get_put hput, if_pos rfl, HX.out]
        have gv : ot ≠ id → v = y := by
          intro hne
          rw [HV.out, HL2.out, get_put hput, if_neg hne, HY.out]
        have hwx := HBD.out.get id
        rw [← HX.out] at hwx
        have hleft : x.pl ≠ 0 → ¬ (x.pl = p ∧ x.at' = b) → atL L2 x.pl x.at' = -1 := by
          intro g1 g2
          have := at_left HK.out hput (by rw [← HX.out]; exact g1) (by rw [← HX.out]; exact g2)
          rw [← HX.out, ← HL2.out] at this
          exact this
        have hthere : p ≠ 0 → atL L2 p b = id := by
          intro g1
          rw [HL2.out]
          exact at_there HK.out hput g1
        subst e1
        have HGV := hid gv
        have HLE := hid hleft
        have HTE := hid hthere
        have HWX := hid hwx
        subst gz
        have hgt := guard24
        have hg45 := guard45
        have hqk : ∀ w, (Op.equalIn 10000 24 (.agg #[.int .i64 x.kf, .int .i64 x.ki]) (.agg #[.int .i64 x.kf, .int .i64 x.ki])).run Try.prog w = .ok true w := by
          intro w
          have := eq24 x.kf x.ki x.kf x.ki w
          simpa using this
        have hqv := eqP y.kf y.ki y.pl y.at' y.ow y.rf y.dr
        clear gv hleft hthere hh hbad hput hwx HX HY HZ HV HE1 HE3 HL2 HR1 HR2 HR3 HR4 HL HK HBD
        go_upto_if 76 with fail
        rw [← HW14.out, ← HQ4.out]
        clear HW14 HQ4
        obtain ⟨mv, hmv⟩ : ∃ mv, mv = (x.pl != p || x.at' != b) := ⟨_, rfl⟩
        have HMV := hid hmv
        clear hmv
        go_upto_region 18 with fail
        go_cut [23] (fun s23 wx => s23 = .bool mv ∧ St Tb w1 wx t L2 [(q4, v), (q3, putG p b x), (q2, y), (q1, x)])
        case first =>
          obtain ⟨⟨S, -, hbx⟩, -⟩ := HST.out
          obtain ⟨x0, x1, x2, x3, x4, x5, x6, x7, x8⟩ := page_cells (hbx (q1, x) (by simp)).1
          clear hbx
          cases hm : (x.pl != p) with
          | true =>
            go_wp2_with fail
            go_meet
            exact ⟨by rw [HMV.out, hm]; rfl, HST.out⟩
          | false =>
            go_wp2_with fail
            go_meet
            exact ⟨by rw [HMV.out, hm]; rfl, HST.out⟩
        case rest =>
          obtain ⟨rfl, hst⟩ := hcut
          clear HST
          have HST := hid hst
          go_upto_region 19 with fail
          go_cut [24] (fun s24 wx => s24 = .bool true ∧ St Tb w1 wx t L2 [(q4, v), (q3, putG p b x), (q2, y), (q1, x)])
          case first =>
            obtain ⟨⟨S, -, hbx⟩, -⟩ := HST.out
            have c2 := (page_cells (hbx (q1, x) (by simp)).1).2.2.1
            have c3 := (page_cells (hbx (q1, x) (by simp)).1).2.2.2.1
            clear hbx
            by_cases hx0 : x.pl = 0
            · have hd : (x.pl == 0) = true := by simpa using hx0
              clear hx0
              go_wp2_with fail
              go_meet
              exact ⟨rfl, HST.out⟩
            · have hd : (x.pl == 0) = false := by simpa using hx0
              cases mv with
              | false =>
                go_wp2_with fail
                go_meet
                exact ⟨rfl, HST.out⟩
              | true =>
                have hne : ¬ (x.pl = p ∧ x.at' = b) := by
                  intro ⟨g1, g2⟩
                  have := HMV.out
                  simp [g1, g2] at this
                have C := HST.out.att I (p := x.pl) (a := x.at') (wf_of HWX.out.pl) (wf_of HWX.out.at')
                rw [HLE.out hx0 hne] at C
                have HC := hid C
                clear C hne hx0
                go_wp2_with fail
                refine HC.out.mono ?_
                rintro e w15 ⟨rfl, h15⟩
                have H15 := hid h15
                clear h15 HC c2 c3
                go_wp2_with fail
                go_meet
                exact ⟨rfl, H15.out⟩
          case rest =>
            obtain ⟨rfl, hst2⟩ := hcut
            clear HST hst
            have HST := hid hst2
            clear hst2
            go_upto_region 20 with fail
            go_cut [25] (fun s25 wx => s25 = .bool true ∧ St Tb w1 wx t L2 [(q4, v), (q3, putG p b x), (q2, y), (q1, x)])
            case first =>
              by_cases hp0 : p = 0
              · have hd : (p == 0) = true := by simpa using hp0
                clear hp0
                go_wp2_with fail
                go_meet
                exact ⟨rfl, HST.out⟩
              · have hd : (p == 0) = false := by simpa using hp0
                have C := HST.out.att I (p := p) (a := b) HO.out HBB.out
                rw [HTE.out hp0] at C
                have HC := hid C
                have hid2 : (id == id) = true := by simp
                clear C hp0
                go_wp2_with fail
                refine HC.out.mono ?_
                rintro e w15 ⟨rfl, h15⟩
                have H15 := hid h15
                clear h15 HC
                go_wp2_with fail
                go_meet
                exact ⟨rfl, H15.out⟩
            case rest =>
              obtain ⟨rfl, hst3⟩ := hcut
              clear HST
              have HBW : Hid (Below w.heap.size w wc) := HB1.out.trans ((hst3.bel I).mono HB1.out.size)
              obtain ⟨⟨S, -, hbx⟩, -⟩ := hst3
              obtain ⟨x0, x1, x2, x3, x4, x5, x6, x7, x8⟩ := page_cells (hbx (q1, x) (by simp)).1
              obtain ⟨z0, z1, z2, z3, z4, z5, z6, z7, z8⟩ := page_cells3 (hbx (q3, putG p b x) (by simp)).1
              obtain ⟨y0, y1, y2, y3, y4, y5, y6, y7, y8⟩ := page_cells (hbx (q2, y) (by simp)).1
              have s4 := (hbx (q4, v) (by simp)).1
              have HS4 := hid s4
              clear hbx s4
              by_cases he : ot = id
              · have hd : (ot == id) = true := by simpa using he
                clear he
                go_wp2_with fail
                go_ret
                exact ⟨rfl, HBW.out⟩
              · have hd : (ot == id) = false := by simpa using he
                have hv := HGV.out he
                have s4 := HS4.out
                rw [hv] at s4
                obtain ⟨v0, v1, v2, v3, v4, v5, v6, v7, v8⟩ := page_cells s4
                clear he hv s4
                go_wp2_with fail
                go_ret
                exact ⟨rfl, HBW.out⟩
      · have hd : (E3 != 0) = true := by simpa using h0
        have l2 : L2 = L := by rw [HL2.out]; exact put_err (by rw [← HE3.out]; exact h0)
        have hzx : z = x := by rw [HZ.out, l2, HX.out]
        have hvy : v = y := by rw [HV.out, l2, HY.out]
        subst hzx
        subst hvy
        obtain ⟨x0, x1, x2, x3, x4, x5, x6, x7, x8⟩ := page_cells HR1.out
        obtain ⟨y0, y1, y2, y3, y4, y5, y6, y7, y8⟩ := page_cells HR2.out
        obtain ⟨z0, z1, z2, z3, z4, z5, z6, z7, z8⟩ := page_cells HR3.out
        obtain ⟨v0, v1, v2, v3, v4, v5, v6, v7, v8⟩ := page_cells HR4.out
        have hgt := guard45
        have hqq := eqP z.kf z.ki z.pl z.at' z.ow z.rf z.dr
        have hqv := eqP v.kf v.ki v.pl v.at' v.ow v.rf v.dr
        clear l2 h0 HX HY HZ HV HE1 HE3 HL2 HR1 HR2 HR3 HR4 HL HK HST
        go_upto_if 76 with fail
        rw [← HW14.out, ← HQ4.out]
        clear HW14 HQ4
        go_wp2_with fail
        go_ret
        exact ⟨rfl, (HB1.out.trans (HB.out.mono HB1.out.size))⟩
theorem moves_walk (I : TbI Tb) (a : Option Addr) (cap : Nat) (l : List Ac) (id p b ot : Int) (w : World) (hc : ActsAt w a l) (hi : (Lit.int .i64 id).wf = true) (ho : (Lit.int .i64 p).wf = true) (hb : (Lit.int .i64 b).wf = true) (ht : (Lit.int .i64 ot).wf = true) :
    Calls Try.prog 6 #[.slice a l.length cap, .int .i64 id, .int .i64 p, .int .i64 b, .int .i64 ot] w fun e w' => e = .returned (.bool true) ∧ Below w.heap.size w w' := by
  by_cases h : l.length ≤ 80
  · exact moves_in I a cap l id p b ot w hc h hi ho hb ht
  · exact moves_out I a cap l.length id p b ot w (by simp only [decide_eq_true_eq]; omega)
end
end Go.Proofs.Ytponlldgnlckfaa
