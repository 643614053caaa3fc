/-
  The law PagesFields walked.
-/
import Derived.Test.YtponlldgnlckfaaSt
import Derived.BigQuiet
import Derived.Deep.CutBlock
import Derived.Deep.DeepCutAuto
namespace Go.Proofs.Ytponlldgnlckfaa
open Go.RowKit

theorem page_cells2 {w : World} {q : Nat} {x : Pg} {o : Int} {d : Bool} (h : RowAt w q 45 (pc (markG d (ownG o x))).toList) : w.cell? ⟨q, 0, none⟩ = some (.int .i64 x.kf) ∧ w.cell? ⟨q, 1, none⟩ = some (.int .i64 x.ki) ∧ w.cell? ⟨q, 2, none⟩ = some (.int .i64 x.pl) ∧ w.cell? ⟨q, 3, none⟩ = some (.int .i64 x.at') ∧ w.cell? ⟨q, 4, none⟩ = some (.int .i64 o) ∧ w.cell? ⟨q, 5, none⟩ = some (.int .i64 x.rf) ∧ w.cell? ⟨q, 6, none⟩ = some (.int .i64 0) ∧ w.cell? ⟨q, 7, none⟩ = some (.bool false) ∧ w.cell? ⟨q, 8, none⟩ = some (.bool d) := page_cells h
section
variable {Tb : World → World → Nat → (Nat → Prop) → List Pg → Prop}
set_option maxRecDepth 100000 in
set_option maxHeartbeats 8000000 in
theorem fields_out (I : TbI Tb) (a : Option Addr) (cap n : Nat) (id ow : Int) (dr : Bool) (ot : Int) (w : World) (h : decide ((80 : Int) < (n : Int)) = true) :
    Calls Try.prog 9 #[.slice a n cap, .int .i64 id, .int .i64 ow, .bool dr, .int .i64 ot] w fun e w' => e = .returned (.bool true) ∧ Below w.heap.size w w' := by
  have HW := hid (fun w => works_any I w)
  go_enter Try.func9, Try.ntmps9
  go_wp2_with (go_at_call 10; refine (HW.out _).mono ?_; rintro e w1 ⟨rfl, hb⟩)
  go_ret
  exact ⟨rfl, hb⟩

set_option maxRecDepth 100000 in
set_option maxHeartbeats 8000000 in
theorem fields_in (I : TbI Tb) (a : Option Addr) (cap : Nat) (l : List Ac) (id ow : Int) (dr : Bool) (ot : Int) (w : World) (hc : ActsAt w a l) (hl : l.length ≤ 80) (hi : (Lit.int .i64 id).wf = true) (ho : (Lit.int .i64 ow).wf = true) (ht : (Lit.int .i64 ot).wf = true) :
    Calls Try.prog 9 #[.slice a l.length cap, .int .i64 id, .int .i64 ow, .bool dr, .int .i64 ot] w fun e w' => e = .returned (.bool true) ∧ Below w.heap.size w w' := by
  have d1 : decide ((80 : Int) < (l.length : Int)) = false := by simp; omega
  have HC := hid hc
  have HI := hid hi
  have HO := hid ho
  have HT := hid ht
  clear hc hi ho ht
  go_enter Try.func9, Try.ntmps9
  go_wp2_with fail
  refine (works_any I _).mono ?_
  rintro e w1 ⟨rfl, hb1⟩
  have HB1 := hid hb1
  clear hb1
  go_wp2_with fail
  refine (St.new I (Below.refl _ w1)).mono ?_
  rintro e w2 ⟨t, rfl, h2⟩
  have H2 := hid h2
  clear h2 d1
  go_wp2_with fail
  go_loopw [13] (fun s13 wr => ∃ i : Nat, i ≤ l.length ∧ s13 = .int .i64 i ∧ St Tb w1 wr t (dL l i) []) (fun s13 _ => l.length - (intOf s13).toNat)
  case atStart => exact ⟨0, by omega, rfl, H2.out⟩
  case round =>
    clear H2
    obtain ⟨i, hi, rfl, hT⟩ := hrel
    have hdl := dL_len l i hi
    have hok := dL_ok l i hi
    by_cases hlt : i < l.length
    · have d0 : decide ((i : Int) < (l.length : Int)) = true := by simp; omega
      obtain ⟨b, off, rfl, k0, k1, k2, k3, k4, k5, hw⟩ := ((HC.out.below HB1.out).below (hT.bel I)).at hlt
      have hD := dL_succ l i hlt
      obtain ⟨r, hr⟩ : ∃ r, r = l[i] := ⟨_, rfl⟩
      rw [← hr] at k0 k1 k2 k3 k4 k5 hw hD
      have C := hid (hT.doI I hok (by omega) (by omega) r hw)
      rw [← hD] at C
      clear hr hw hD hT hok hdl
      go_wp2_with fail
      refine C.out.mono ?_
      rintro e w4 ⟨rfl, h4⟩
      have H4 := hid h4
      clear h4 C
      go_wp2_with fail
      exact ⟨⟨i + 1, by omega, by go_num, H4.out⟩, by simp [intOf]; omega⟩
    · obtain rfl : i = l.length := by omega
      have d0 : decide ((l.length : Int) < (l.length : Int)) = false := by simp
      obtain ⟨L, hL⟩ : ∃ L, L = dL l l.length := ⟨_, rfl⟩
      rw [← hL] at hT hok hdl
      have HL := hid (show L.length < 900000 by omega)
      have HK := hid (hok.more (show (1000 * l.length : Int) ≤ 100000 by omega))
      clear hL hok hdl hlt
      obtain ⟨x, hx, C1⟩ := hT.get I HI.out
      have HX := hid hx
      have HC1 := hid C1
      clear hx C1 hT
      have HU1 := hid (fun (L2 : List Pg) (h : L2 = ownL L id ow) => (show Ok 100000 L2 ∧ L2.length < 900000 by rw [h]; exact ⟨ok_own HK.out id ow, by rw [len_own]; exact HL.out⟩))
      go_wp2_with fail
      refine HC1.out.mono ?_
      rintro e w5 ⟨rfl, h5⟩
      clear HC1
      obtain ⟨q1, hq1⟩ : ∃ q, q = w5.heap.size := ⟨_, rfl⟩
      obtain ⟨w6, hw6⟩ : ∃ w6, w6 = w5.alloc (.cells #[.int .i64 x.kf, .int .i64 x.ki, .int .i64 x.pl, .int .i64 x.at', .int .i64 x.ow, .int .i64 x.rf, .int .i64 0, .bool false, .bool x.dr] 45) := ⟨_, rfl⟩
      have h6 : St Tb w1 w6 t L [(q1, x)] := by rw [hw6, hq1]; exact h5.box I x
      obtain ⟨y, hy, C2⟩ := h6.get I HT.out
      have HY := hid hy
      have HC2 := hid C2
      have HQ1 := hid hq1
      have HW6 := hid hw6
      obtain ⟨E1, hE1⟩ : ∃ E, E = getE L id := ⟨_, rfl⟩
      rw [← hE1]
      have HE1 := hid hE1
      clear h5 hq1 hw6 h6 hy C2 hE1
      go_wp2_with fail
      rw [← HW6.out, ← HQ1.out]
      refine HC2.out.mono ?_
      rintro e w7 ⟨rfl, h7⟩
      clear HC2 HW6 HQ1
      obtain ⟨q2, hq2⟩ : ∃ q, q = w7.heap.size := ⟨_, rfl⟩
      obtain ⟨w8, hw8⟩ : ∃ w8, w8 = w7.alloc (.cells #[.int .i64 y.kf, .int .i64 y.ki, .int .i64 y.pl, .int .i64 y.at', .int .i64 y.ow, .int .i64 y.rf, .int .i64 0, .bool false, .bool y.dr] 45) := ⟨_, rfl⟩
      have h8 : St Tb w1 w8 t L [(q2, y), (q1, x)] := by rw [hw8, hq2]; exact h7.box I y
      have HC3 := hid (h8.own I HK.out (by omega) HL.out HI.out HO.out)
      have HQ2 := hid hq2
      have HW8 := hid hw8
      obtain ⟨E2, hE2⟩ : ∃ E, E = getE L ot := ⟨_, rfl⟩
      rw [← hE2]
      clear h7 hq2 hw8 h8 hE2
      go_wp2_with fail
      rw [← HW8.out, ← HQ2.out]
      refine HC3.out.mono ?_
      rintro e w9 ⟨rfl, h9⟩
      clear HC3 HW8 HQ2
      obtain ⟨L1, hL1⟩ : ∃ K, K = ownL L id ow := ⟨_, rfl⟩
      rw [← hL1] at h9
      obtain ⟨hk1, hl1⟩ := HU1.out L1 hL1
      have HC4 := hid (h9.mark I hk1 (by omega) hl1 (d := dr) HI.out)
      have HL1 := hid hL1
      rw [← HE1.out]
      clear h9 hL1 hk1 hl1 HU1
      go_wp2_with fail
      refine HC4.out.mono ?_
      rintro e w10 ⟨rfl, h10⟩
      clear HC4
      obtain ⟨L2, hL2⟩ : ∃ K, K = markL L1 id dr := ⟨_, rfl⟩
      rw [← hL2] at h10
      obtain ⟨E3, hE3⟩ : ∃ E, E = getE L1 id := ⟨_, rfl⟩
      rw [← hE3]
      have HE3 := hid hE3
      have HL2 := hid hL2
      obtain ⟨z, hz, C5⟩ := h10.get I HI.out
      have HZ := hid hz
      have HC5 := hid C5
      clear h10 hL2 hE3 hz C5
      go_wp2_with fail
      refine HC5.out.mono ?_
      rintro e w11 ⟨rfl, h11⟩
      clear HC5
      obtain ⟨q3, hq3⟩ : ∃ q, q = w11.heap.size := ⟨_, rfl⟩
      obtain ⟨w12, hw12⟩ : ∃ w12, w12 = w11.alloc (.cells #[.int .i64 z.kf, .int .i64 z.ki, .int .i64 z.pl, .int .i64 z.at', .int .i64 z.ow, .int .i64 z.rf, .int .i64 0, .bool false, .bool z.dr] 45) := ⟨_, rfl⟩
      have h12 : St Tb w1 w12 t L2 [(q3, z), (q2, y), (q1, x)] := by rw [hw12, hq3]; exact h11.box I z
      obtain ⟨v, hv, C6⟩ := h12.get I HT.out
      have HV := hid hv
      have HC6 := hid C6
      have HQ3 := hid hq3
      have HW12 := hid hw12
      obtain ⟨E4, hE4⟩ : ∃ E, E = getE L2 id := ⟨_, rfl⟩
      rw [← hE4]
      clear h11 hq3 hw12 h12 hv C6 hE4
      go_wp2_with fail
      rw [← HW12.out, ← HQ3.out]
      refine HC6.out.mono ?_
      rintro e w13 ⟨rfl, h13⟩
      clear HC6 HW12 HQ3
      obtain ⟨q4, hq4⟩ : ∃ q, q = w13.heap.size := ⟨_, rfl⟩
      obtain ⟨w14, hw14⟩ : ∃ w14, w14 = w13.alloc (.cells #[.int .i64 v.kf, .int .i64 v.ki, .int .i64 v.pl, .int .i64 v.at', .int .i64 v.ow, .int .i64 v.rf, .int .i64 0, .bool false, .bool v.dr] 45) := ⟨_, rfl⟩
      have h14 : St Tb w1 w14 t L2 [(q4, v), (q3, z), (q2, y), (q1, x)] := by rw [hw14, hq4]; exact h13.box I v
      obtain ⟨E5, hE5⟩ : ∃ E, E = getE L2 ot := ⟨_, rfl⟩
      rw [← hE5]
      have HB := hid (h14.bel I)
      obtain ⟨⟨S, -, hbx⟩, hnd⟩ := h14
      have r1 := (hbx (q1, x) (by simp)).1
      have r2 := (hbx (q2, y) (by simp)).1
      have r3 := (hbx (q3, z) (by simp)).1
      have r4 := (hbx (q4, v) (by simp)).1
      have HR1 := hid r1
      have HL0 := hid (hbx (q1, x) (by simp)).2.2
      have HR2 := hid r2
      have HR3 := hid r3
      have HR4 := hid r4
      have HQ4 := hid hq4
      have HW14 := hid hw14
      have HND : Hid (q2 ≠ q1 ∧ q3 ≠ q1 ∧ q4 ≠ q1) := by
        simp at hnd
        exact ⟨hnd.2.2, fun e => hnd.2.1.2 e, fun e => hnd.1.2.2 e⟩
      clear h13 hq4 hw14 hE5 hbx r1 r2 r3 r4 hnd
      cases hh : has L id with
      | false =>
        have e1 : E1 = 2 := by rw [HE1.out]; unfold getE; rw [hh]; rfl
        have l1 : L1 = L := by rw [HL1.out]; unfold ownL; rw [hh]; rfl
        have e3 : E3 = 2 := by rw [HE3.out, l1]; unfold getE; rw [hh]; rfl
        have l2 : L2 = L := by rw [HL2.out, l1]; unfold markL; rw [hh]; rfl
        have hvy : v = y := by rw [HV.out, l2, HY.out]
        subst hvy
        subst e1
        subst e3
        obtain ⟨y0, y1, y2, y3, y4, y5, y6, y7, y8⟩ := page_cells HR2.out
        obtain ⟨v0, v1, v2, v3, v4, v5, v6, v7, v8⟩ := page_cells HR4.out
        have hgt := guard45
        have hqq := eqP v.kf v.ki v.pl v.at' v.ow v.rf v.dr
        clear l1 l2 hh HX HY HZ HV HE1 HE3 HL1 HL2 HR1 HR2 HR3 HR4 HL HK
        go_upto_if 77 with fail
        rw [← HW14.out, ← HQ4.out]
        clear HW14 HQ4
        go_wp2_with fail
        go_ret
        exact ⟨rfl, (HB1.out.trans (HB.out.mono HB1.out.size))⟩
      | true =>
        have e1 : E1 = 0 := by rw [HE1.out]; unfold getE; rw [hh]; rfl
        have hh1 : has L1 id = true := by rw [HL1.out]; exact has_own ow hh
        have e3 : E3 = 0 := by rw [HE3.out]; unfold getE; rw [hh1]; rfl
        have gz : z = markG dr (ownG ow x) := by
          rw [HZ.out, HL2.out, get_mark hh1, if_pos rfl, HL1.out, get_own hh, if_pos rfl, HX.out]
        have gv : ot ≠ id → v = y := by
          intro hne
          rw [HV.out, HL2.out, get_mark hh1, if_neg hne, HL1.out, get_own hh, if_neg hne, HY.out]
        subst e1
        subst e3
        have HGV := hid gv
        subst gz
        have hgt := guard45
        have hqq := eqP x.kf x.ki x.pl x.at' ow x.rf dr
        have hqv := eqP y.kf y.ki y.pl y.at' y.ow y.rf y.dr
        have x4 := (page_cells HR1.out).2.2.2.2.1
        have x8 := (page_cells HR1.out).2.2.2.2.2.2.2.2
        have fx4 := HR1.out.frozen 4
        have hs1 := HR1.out.set 4 (.int .i64 ow)
        have fx8 := hs1.frozen 8
        have x8' : (w14.setCell ⟨q1, 4, none⟩ (.int .i64 ow)).cell? ⟨q1, 8, none⟩ = some (.bool x.dr) := by rw [hs1.cell]; rfl
        have hs2 := hs1.set 8 (.bool dr)
        obtain ⟨W, hW⟩ : ∃ W, W = (w14.setCell ⟨q1, 4, none⟩ (.int .i64 ow)).setCell ⟨q1, 8, none⟩ (.bool dr) := ⟨_, rfl⟩
        rw [← hW] at hs2
        have s2 : RowAt W q2 45 (pc y).toList := by rw [hW]; exact (HR2.out.other HND.out.1 4 _).other HND.out.1 8 _
        have s3 : RowAt W q3 45 (pc (markG dr (ownG ow x))).toList := by rw [hW]; exact (HR3.out.other HND.out.2.1 4 _).other HND.out.2.1 8 _
        have s4 : RowAt W q4 45 (pc v).toList := by rw [hW]; exact (HR4.out.other HND.out.2.2 4 _).other HND.out.2.2 8 _
        have s1 : RowAt W q1 45 (pc (markG dr (ownG ow x))).toList := hs2
        obtain ⟨a0, a1, a2, a3, a4, a5, a6, a7, a8⟩ := page_cells2 s1
        obtain ⟨b0, b1, b2, b3, b4, b5, b6, b7, b8⟩ := page_cells2 s3
        obtain ⟨c0, c1, c2, c3, c4, c5, c6, c7, c8⟩ := page_cells s2
        have HS4 := hid s4
        have HW := hid hW
        have HBW : Hid (Below w.heap.size w W) := by
          show Below _ _ _
          rw [hW]
          have hb := HB1.out.trans (HB.out.mono HB1.out.size)
          have hq : w.heap.size ≤ q1 := Nat.le_trans HB1.out.size HL0.out
          exact (hb.setCell (p := ⟨q1, 4, none⟩) hq _).setCell (p := ⟨q1, 8, none⟩) hq _
        clear hs1 hs2 s1 s2 s3 s4 hh1 hh gv HX HY HZ HV HE1 HE3 HL1 HL2 HR1 HR2 HR3 HR4 HL HK hW
        go_upto_if 77 with fail
        rw [← HW14.out, ← HQ4.out]
        clear HW14 HQ4
        go_upto_region 21 with fail
        rw [← HW.out]
        clear HW x4 x8 fx4 fx8 x8'
        by_cases he : ot = id
        · have hd : (ot == id) = true := by simpa using he
          clear he
          go_wp2_with fail
          go_ret
          exact ⟨rfl, HBW.out⟩
        · have hd : (ot == id) = false := by simpa using he
          have hv := HGV.out he
          have s4 := HS4.out
          rw [hv] at s4
          obtain ⟨v0, v1, v2, v3, v4, v5, v6, v7, v8⟩ := page_cells s4
          clear he hv s4
          go_wp2_with fail
          go_ret
          exact ⟨rfl, HBW.out⟩
theorem fields_walk (I : TbI Tb) (a : Option Addr) (cap : Nat) (l : List Ac) (id ow : Int) (dr : Bool) (ot : Int) (w : World) (hc : ActsAt w a l) (hi : (Lit.int .i64 id).wf = true) (ho : (Lit.int .i64 ow).wf = true) (ht : (Lit.int .i64 ot).wf = true) :
    Calls Try.prog 9 #[.slice a l.length cap, .int .i64 id, .int .i64 ow, .bool dr, .int .i64 ot] w fun e w' => e = .returned (.bool true) ∧ Below w.heap.size w w' := by
  by_cases h : l.length ≤ 80
  · exact fields_in I a cap l id ow dr ot w hc h hi ho ht
  · exact fields_out I a cap l.length id ow dr ot w (by simp only [decide_eq_true_eq]; omega)
end
end Go.Proofs.Ytponlldgnlckfaa
