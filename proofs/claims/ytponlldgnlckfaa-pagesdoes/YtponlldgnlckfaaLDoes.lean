/-
  The law PagesDoes walked.
-/
import Derived.Test.YtponlldgnlckfaaBoth
import Derived.BigQuiet
import Derived.Deep.CutBlock
import Derived.Deep.DeepCutAuto
namespace Go.Proofs.Ytponlldgnlckfaa
open Go.RowKit

theorem do_way0 (L : List Pg) {r : Ac} (h : (r.k.tmod 6 == 0) = true) : doN L r = makeR L r.kf r.ki ∧ doE L r = makeE L r.kf r.ki ∧ doL L r = makeL L r.kf r.ki r.n := by
  have e : kd r = 0 := by simpa [kd] using h
  unfold doN doE doL
  rw [e]
  simp
theorem do_way1 (L : List Pg) {r : Ac} (h : (r.k.tmod 6 == 1) = true) : doN L r = 0 ∧ doE L r = putE L r.id r.pl r.n ∧ doL L r = putL L r.id r.pl r.n := by
  have e : kd r = 1 := by simpa [kd] using h
  unfold doN doE doL
  rw [e]
  simp
theorem do_way2 (L : List Pg) {r : Ac} (h : (r.k.tmod 6 == 2) = true) : doN L r = refN L r.id r.n ∧ doE L r = refE L r.id r.n ∧ doL L r = refL L r.id r.n := by
  have e : kd r = 2 := by simpa [kd] using h
  unfold doN doE doL
  rw [e]
  simp
theorem do_way3 (L : List Pg) {r : Ac} (h : (r.k.tmod 6 == 3) = true) : doN L r = 0 ∧ doE L r = dropE L r.id ∧ doL L r = dropL L r.id := by
  have e : kd r = 3 := by simpa [kd] using h
  unfold doN doE doL
  rw [e]
  simp
theorem do_way4 (L : List Pg) {r : Ac} (h : (r.k.tmod 6 == 4) = true) : doN L r = 0 ∧ doE L r = getE L r.id ∧ doL L r = ownL L r.id r.n := by
  have e : kd r = 4 := by simpa [kd] using h
  unfold doN doE doL
  rw [e]
  simp
theorem do_way5 (L : List Pg) {r : Ac} (h0 : (r.k.tmod 6 == 0) = false) (h1 : (r.k.tmod 6 == 1) = false) (h2 : (r.k.tmod 6 == 2) = false) (h3 : (r.k.tmod 6 == 3) = false) (h4 : (r.k.tmod 6 == 4) = false) : doN L r = 0 ∧ doE L r = getE L r.id ∧ doL L r = markL L r.id (decide (0 < r.n)) := by
  have e : ∀ j : Int, (r.k.tmod 6 == j) = false → kd r ≠ j := fun j h e => by
    have : r.k.tmod 6 = j := e
    rw [this] at h
    simp at h
  unfold doN doE doL
  rw [if_neg (e 0 h0), if_neg (e 2 h2), if_neg (e 0 h0), if_neg (e 1 h1), if_neg (e 2 h2), if_neg (e 3 h3), if_neg (e 0 h0), if_neg (e 1 h1), if_neg (e 2 h2), if_neg (e 3 h3), if_neg (e 4 h4)]
  exact ⟨rfl, rfl, rfl⟩

section
variable {Tb : World → World → Nat → (Nat → Prop) → List Pg → Prop}
set_option maxRecDepth 100000 in
set_option maxHeartbeats 8000000 in
theorem does_out (I : TbI Tb) (a : Option Addr) (cap n : Nat) (f i p b : Int) (w : World) (h : decide ((80 : Int) < (n : Int)) = true) :
    Calls Try.prog 3 #[.slice a n cap, .agg #[.int .i64 f, .int .i64 i], .int .i64 p, .int .i64 b] w fun e w' => e = .returned (.bool true) ∧ Below w.heap.size w w' := by
  have hb0 := below_alloc w (.cells #[.int .i64 f, .int .i64 i] 24)
  have HW := hid (fun w => works_any I w)
  have HB0 := hid hb0
  clear hb0
  go_enter Try.func3, Try.ntmps3
  go_wp2_with (go_at_call 10; refine (HW.out _).mono ?_; rintro e w1 ⟨rfl, hb⟩)
  go_ret
  exact ⟨rfl, bel_trans HB0.out hb (Nat.le_refl _)⟩

set_option maxRecDepth 100000 in
set_option maxHeartbeats 16000000 in
theorem does_in (I : TbI Tb) (a : Option Addr) (cap : Nat) (l : List Ac) (f i p b : Int) (w : World) (hc : ActsAt w a l) (hl : l.length ≤ 80) (hf : (Lit.int .i64 f).wf = true) (hi0 : (Lit.int .i64 i).wf = true) (hp : (Lit.int .i64 p).wf = true) (hb : (Lit.int .i64 b).wf = true) :
    Calls Try.prog 3 #[.slice a l.length cap, .agg #[.int .i64 f, .int .i64 i], .int .i64 p, .int .i64 b] w fun e w' => e = .returned (.bool true) ∧ Below w.heap.size w w' := by
  have d1 : decide ((80 : Int) < (l.length : Int)) = false := by simp; omega
  have hb0 := below_alloc w (.cells #[.int .i64 f, .int .i64 i] 24)
  have hbx0 := RowAt.new w #[.int .i64 f, .int .i64 i] 24
  obtain ⟨w0, hw0⟩ : ∃ w0, w0 = w.alloc (.cells #[.int .i64 f, .int .i64 i] 24) := ⟨_, rfl⟩
  rw [← hw0] at hb0 hbx0
  obtain ⟨qk, hqk⟩ : ∃ q, q = w.heap.size := ⟨_, rfl⟩
  rw [← hqk] at hbx0
  have HW0 := hid hw0
  have HQK := hid hqk
  have HB0 := hid hb0
  have HBX := hid hbx0
  have HC := hid hc
  have HF := hid hf
  have HI := hid hi0
  have HP := hid hp
  have HB := hid hb
  clear hc hb0 hbx0 hw0 hqk hf hi0 hp hb
  go_enter Try.func3, Try.ntmps3
  go_upto_region 1 with fail
  rw [← HW0.out, ← HQK.out]
  go_wp2_with fail
  refine (works_any I _).mono ?_
  rintro e w1 ⟨rfl, hb1⟩
  have HBX1 := hid (HBX.out.below hb1 HBX.out.lt)
  have HB1 := hid (bel_trans HB0.out hb1 (Nat.le_refl _))
  clear hb1 HW0 HQK HBX
  go_wp2_with fail
  refine (I.new (Below.refl _ w1)).mono ?_
  rintro e w2 ⟨t, S2, rfl, h2, hb2⟩
  have hB2 : Bo Tb w1 (w2.alloc (.cells #[.slice none 0 0] 32)) t w2.heap.size w2.heap.size [] := ⟨⟨S2, I.later h2 (below_alloc _ _)⟩, RefIs.made w2, hb2.size, by simp⟩
  obtain ⟨B, hBB⟩ : ∃ B, B = w2.heap.size := ⟨_, rfl⟩
  rw [← hBB] at hB2
  obtain ⟨w3, hw3⟩ : ∃ w3, w3 = w2.alloc (.cells #[.slice none 0 0] 32) := ⟨_, rfl⟩
  rw [← hw3] at hB2
  have HW3 := hid hw3
  have HBB := hid hBB
  have HB2 := hid hB2
  clear h2 hb2 d1 hB2 hBB hw3
  go_upto_region 8 with fail
  rw [← HW3.out, ← HBB.out]
  clear HW3 HBB
  go_wp2_with fail
  go_loopw [12, 13, 14, 15, 16, 17, 18, 19, 20, 21] (fun s12 _ _ _ _ _ _ _ _ _ wr => ∃ i : Nat, i ≤ l.length ∧ s12 = .int .i64 i ∧ Bo Tb w1 wr t B B (dL l i)) (fun s12 _ _ _ _ _ _ _ _ _ _ => l.length - (intOf s12).toNat)
  case atStart => exact ⟨0, by omega, rfl, HB2.out⟩
  case round =>
    clear HB2
    obtain ⟨j, hj, rfl, hT⟩ := hrel
    have hdl := dL_len l j hj
    have hok := dL_ok l j hj
    by_cases hlt : j < l.length
    · have d0 : decide ((j : Int) < (l.length : Int)) = true := by simp; omega
      obtain ⟨g, off, rfl, k0, k1, k2, k3, k4, k5, hw⟩ := ((HC.out.below HB1.out).below (hT.bel I)).at hlt
      have hD := dL_succ l j hlt
      have hok2 := dL_ok l (j + 1) hlt
      have hbd2 := dL_bd l HC.out.w (by omega) (j + 1) hlt
      obtain ⟨r, hr⟩ : ∃ r, r = l[j] := ⟨_, rfl⟩
      rw [← hr] at k0 k1 k2 k3 k4 k5 hw hD
      obtain ⟨L, hL⟩ : ∃ L, L = dL l j := ⟨_, rfl⟩
      rw [← hL] at hT hok hdl hD
      obtain ⟨L1, hL1⟩ : ∃ K, K = dL l (j + 1) := ⟨_, rfl⟩
      have HL1 := hid hL1
      rw [← hL1] at hD hok2 hbd2
      have HD := hid hD
      have HAC := hid hw
      have HLN := hid (show L.length < 900000 by omega)
      have HLN1 := hid (show L1.length < 900000 by have := dL_len l (j + 1) hlt; rw [hL1]; omega)
      have HOK := hid (hok.more (show (1000 * j : Int) ≤ 100000 by omega))
      have C := do_both I hT (hok.more (show (1000 * j : Int) ≤ 100000 by omega)) (by omega) (by omega) r hw
      rw [← hD] at C
      obtain ⟨N, hN⟩ : ∃ N, N = doN L r := ⟨_, rfl⟩
      obtain ⟨E, hE⟩ : ∃ E, E = doE L r := ⟨_, rfl⟩
      rw [← hN, ← hE] at C
      have HN := hid hN
      have HE := hid hE
      obtain ⟨w4, hw4⟩ : ∃ w4, w4 = wr.alloc (.cells #[.int .i64 r.k, .int .i64 r.id, .int .i64 r.kf, .int .i64 r.ki, .int .i64 r.pl, .int .i64 r.n] 34) := ⟨_, rfl⟩
      obtain ⟨q, hq⟩ : ∃ q, q = wr.heap.size := ⟨_, rfl⟩
      rw [← hw4, ← hq] at C
      have hact : RowAt w4 q 34 (acCells r) := by rw [hw4, hq]; exact RowAt.new wr (acCells r).toArray 34
      have HW4 := hid hw4
      have HQ := hid hq
      have HC2 := hid C
      have HLO := hid hT.lo
      have HACT := hid hact
      clear hr hw hD hT hok hdl hL hL1 hok2 hbd2 hN hE hw4 hq C hact
      go_upto_region 12 with fail
      rw [← HW4.out, ← HQ.out]
      obtain ⟨a0, a1, a2, a3, a4, a5⟩ := act_cells HACT.out
      clear HW4 HQ k0 k1 k2 k3 k4 k5
      go_wp2_with fail
      refine HC2.out.mono ?_
      rintro e w5 ⟨rfl, h5, hr5, ha5, hb5⟩
      have H5 := hid h5
      have HR5 := hid hr5
      have HA5 := hid ha5
      have HB5 := hid hb5
      obtain ⟨b0, b1, b2, b3, b4, b5⟩ := act_cells ha5
      clear a0 a1 a2 a3 a4 a5 HC2 HACT h5 hr5 ha5 hb5
      go_upto_block 2 with fail
      go_cut [16, 17] (fun s16 s17 wx => s16 = .int .i64 N ∧ s17 = .int .i64 E ∧ Bo Tb w1 wx t B B L1 ∧ RowAt wx q 34 (acCells r))
      case first =>
        have FIN : Hid (∀ w', RefIs B w' B L1 → Below B w5 w' → Kp pob w5 w' → Bo Tb w1 w' t B B L1 ∧ RowAt w' q 34 (acCells r)) := fun w' g1 g2 g3 => ⟨Bo.doc I H5.out g1 g2 g3 HLO.out HB5.out, HA5.out.kp g3 rfl⟩
        rcases kd_ways r with q0 | ⟨q0, q1⟩ | ⟨q0, q1, q2⟩ | ⟨q0, q1, q2, q3⟩ | ⟨q0, q1, q2, q3, q4⟩ | ⟨q0, q1, q2, q3, q4⟩
        · obtain ⟨e1, e2, e3⟩ := do_way0 L q0
          have HX : Hid (Calls Try.prog 13 #[.pointer (some ⟨B, 0, none⟩), .agg #[.int .i64 r.kf, .int .i64 r.ki], .int .i64 r.n] w5 fun e w' => e = .returned (.tuple #[.int .i64 N, .int .i64 E]) ∧ Bo Tb w1 w' t B B L1 ∧ RowAt w' q 34 (acCells r)) := by
            refine (rmake B B L r.kf r.ki r.n w5 HR5.out (by have := HLN.out; omega) HB5.out).mono ?_
            rintro e w' ⟨he, g1, g2, g3⟩
            rw [← e3, ← HD.out] at g1
            rw [HN.out, HE.out, e1, e2]
            exact ⟨he, FIN.out w' g1 g2 g3⟩
          clear e1 e2 e3
          go_wp2_with fail
          refine HX.out.mono ?_
          rintro e w6 ⟨rfl, h6⟩
          have H6 := hid h6
          clear h6 HX
          go_wp2_with fail
          go_meet
          exact ⟨rfl, rfl, H6.out⟩
        · obtain ⟨e1, e2, e3⟩ := do_way1 L q1
          have HX : Hid (Calls Try.prog 14 #[.pointer (some ⟨B, 0, none⟩), .int .i64 r.id, .int .i64 r.pl, .int .i64 r.n] w5 fun e w' => e = .returned (.int .i64 E) ∧ Bo Tb w1 w' t B B L1 ∧ RowAt w' q 34 (acCells r)) := by
            refine (rput B B L r.id r.pl r.n w5 HR5.out (by have := HLN.out; omega)).mono ?_
            rintro e w' ⟨he, g1, g2, g3⟩
            rw [← e3, ← HD.out] at g1
            rw [HE.out, e2]
            exact ⟨he, FIN.out w' g1 g2 g3⟩
          have HN0 : Hid (N = 0) := HN.out.trans e1
          clear e1 e2 e3
          go_wp2_with fail
          refine HX.out.mono ?_
          rintro e w6 ⟨rfl, h6⟩
          have H6 := hid h6
          clear h6 HX
          go_wp2_with fail
          go_meet
          exact ⟨by rw [HN0.out], rfl, H6.out⟩
        · obtain ⟨e1, e2, e3⟩ := do_way2 L q2
          have HX : Hid (Calls Try.prog 15 #[.pointer (some ⟨B, 0, none⟩), .int .i64 r.id, .int .i64 r.n] w5 fun e w' => e = .returned (.tuple #[.int .i64 N, .int .i64 E]) ∧ Bo Tb w1 w' t B B L1 ∧ RowAt w' q 34 (acCells r)) := by
            refine (rref B B 100000 L r.id r.n w5 HR5.out HOK.out.refs (by omega)).mono ?_
            rintro e w' ⟨he, g1, g2, g3⟩
            rw [← e3, ← HD.out] at g1
            rw [HN.out, HE.out, e1, e2]
            exact ⟨he, FIN.out w' g1 g2 g3⟩
          clear e1 e2 e3
          go_wp2_with fail
          refine HX.out.mono ?_
          rintro e w6 ⟨rfl, h6⟩
          have H6 := hid h6
          clear h6 HX
          go_wp2_with fail
          go_meet
          exact ⟨rfl, rfl, H6.out⟩
        · obtain ⟨e1, e2, e3⟩ := do_way3 L q3
          have HX : Hid (Calls Try.prog 16 #[.pointer (some ⟨B, 0, none⟩), .int .i64 r.id] w5 fun e w' => e = .returned (.int .i64 E) ∧ Bo Tb w1 w' t B B L1 ∧ RowAt w' q 34 (acCells r)) := by
            refine (rdrop B B L r.id w5 HR5.out).mono ?_
            rintro e w' ⟨he, g1, g2, g3⟩
            rw [← e3, ← HD.out] at g1
            rw [HE.out, e2]
            exact ⟨he, FIN.out w' g1 g2 g3⟩
          have HN0 : Hid (N = 0) := HN.out.trans e1
          clear e1 e2 e3
          go_wp2_with fail
          refine HX.out.mono ?_
          rintro e w6 ⟨rfl, h6⟩
          have H6 := hid h6
          clear h6 HX
          go_wp2_with fail
          go_meet
          exact ⟨by rw [HN0.out], rfl, H6.out⟩
        · obtain ⟨e1, e2, e3⟩ := do_way4 L q4
          have HX : Hid (Calls Try.prog 17 #[.pointer (some ⟨B, 0, none⟩), .int .i64 r.id, .int .i64 r.n] w5 fun e w' => e = .returned (.int .i64 E) ∧ Bo Tb w1 w' t B B L1 ∧ RowAt w' q 34 (acCells r)) := by
            refine (rown B B L r.id r.n w5 HR5.out).mono ?_
            rintro e w' ⟨he, g1, g2, g3⟩
            rw [← e3, ← HD.out] at g1
            rw [HE.out, e2]
            exact ⟨he, FIN.out w' g1 g2 g3⟩
          have HN0 : Hid (N = 0) := HN.out.trans e1
          clear e1 e2 e3
          go_wp2_with fail
          refine HX.out.mono ?_
          rintro e w6 ⟨rfl, h6⟩
          have H6 := hid h6
          clear h6 HX
          go_wp2_with fail
          go_meet
          exact ⟨by rw [HN0.out], rfl, H6.out⟩
        · obtain ⟨e1, e2, e3⟩ := do_way5 L q0 q1 q2 q3 q4
          have HX : Hid (Calls Try.prog 18 #[.pointer (some ⟨B, 0, none⟩), .int .i64 r.id, .bool (decide (0 < r.n))] w5 fun e w' => e = .returned (.int .i64 E) ∧ Bo Tb w1 w' t B B L1 ∧ RowAt w' q 34 (acCells r)) := by
            refine (rmark B B L r.id (decide (0 < r.n)) w5 HR5.out).mono ?_
            rintro e w' ⟨he, g1, g2, g3⟩
            rw [← e3, ← HD.out] at g1
            rw [HE.out, e2]
            exact ⟨he, FIN.out w' g1 g2 g3⟩
          have HN0 : Hid (N = 0) := HN.out.trans e1
          clear e1 e2 e3
          go_wp2_with fail
          refine HX.out.mono ?_
          rintro e w6 ⟨rfl, h6⟩
          have H6 := hid h6
          clear h6 HX
          go_wp2_with fail
          go_meet
          exact ⟨by rw [HN0.out], rfl, H6.out⟩
      case rest =>
        obtain ⟨rfl, rfl, h6, ha6⟩ := hcut
        obtain ⟨w6, hw6⟩ : ∃ w6, w6 = wc := ⟨_, rfl⟩
        rw [← hw6] at h6 ha6
        rw [← hw6]
        clear hw6 b0 b1 b2 b3 b4 b5 H5 HR5 HA5 HB5
        have b1 := (act_cells ha6).2.1
        obtain ⟨z, hz⟩ : ∃ z, z = getL L1 r.id := ⟨_, rfl⟩
        obtain ⟨G, hG⟩ : ∃ G, G = getE L1 r.id := ⟨_, rfl⟩
        have C3 : Calls Try.prog 19 #[.pointer (some ⟨t, 0, none⟩), .int .i64 r.id] w6 fun e w' => e = .returned (.tuple #[.agg #[.int .i64 z.kf, .int .i64 z.ki, .int .i64 z.pl, .int .i64 z.at', .int .i64 z.ow, .int .i64 z.rf, .int .i64 0, .bool false, .bool z.dr], .int .i64 G]) ∧ Below w6.heap.size w6 w' := by
          obtain ⟨S, hS⟩ := h6.tb
          rw [hz, hG]
          exact I.get hS HAC.out.id
        have HC3 := hid C3
        have H6 := hid h6
        have HA6 := hid ha6
        have HZ := hid hz
        have HG := hid hG
        clear C3 h6 ha6 hz hG
        go_wp2_with fail
        refine HC3.out.mono ?_
        rintro e w7 ⟨rfl, hb7⟩
        have hbx := RowAt.new w7 (pc z) 45
        have hb8 := bel_trans hb7 (below_alloc w7 (.cells (pc z) 45)) (Nat.le_refl _)
        obtain ⟨w8, hw8⟩ : ∃ w8, w8 = w7.alloc (.cells (pc z) 45) := ⟨_, rfl⟩
        rw [← hw8] at hbx hb8
        have hw8' : w8 = w7.alloc (.cells #[.int .i64 z.kf, .int .i64 z.ki, .int .i64 z.pl, .int .i64 z.at', .int .i64 z.ow, .int .i64 z.rf, .int .i64 0, .bool false, .bool z.dr] 45) := hw8
        obtain ⟨q8, hq8⟩ : ∃ q, q = w7.heap.size := ⟨_, rfl⟩
        rw [← hq8] at hbx
        have HW8 := hid hw8'
        have HQ8 := hid hq8
        have HBX8 := hid hbx
        have h8 := H6.out.later I hb8
        have ha8 := HA6.out.below hb8 HA6.out.lt
        have b81 := (act_cells ha8).2.1
        have C4 : Calls Try.prog 20 #[.pointer (some ⟨B, 0, none⟩), .int .i64 r.id] w8 fun e w' => e = .returned (.tuple #[.agg #[.int .i64 z.kf, .int .i64 z.ki, .int .i64 z.pl, .int .i64 z.at', .int .i64 z.ow, .int .i64 z.rf, .int .i64 0, .bool false, .bool z.dr], .int .i64 G]) ∧ Below w8.heap.size w8 w' := by
          rw [HZ.out, HG.out]
          exact rget B B L1 r.id w8 h8.rf
        have HC4 := hid C4
        have H8 := hid h8
        have HA8 := hid ha8
        clear hb7 hbx hb8 hw8 hw8' hq8 h8 ha8 C4 HC3 b1 H6 HA6 HZ HG
        go_upto_region 27 with fail
        rw [← HW8.out, ← HQ8.out]
        clear HW8 HQ8
        go_wp2_with fail
        refine HC4.out.mono ?_
        rintro e w9 ⟨rfl, hb9⟩
        have hbx := RowAt.new w9 (pc z) 45
        have hb10 := bel_trans hb9 (below_alloc w9 (.cells (pc z) 45)) (Nat.le_refl _)
        obtain ⟨w10, hw10⟩ : ∃ w10, w10 = w9.alloc (.cells (pc z) 45) := ⟨_, rfl⟩
        rw [← hw10] at hbx hb10
        have hw10' : w10 = w9.alloc (.cells #[.int .i64 z.kf, .int .i64 z.ki, .int .i64 z.pl, .int .i64 z.at', .int .i64 z.ow, .int .i64 z.rf, .int .i64 0, .bool false, .bool z.dr] 45) := hw10
        obtain ⟨q10, hq10⟩ : ∃ q, q = w9.heap.size := ⟨_, rfl⟩
        rw [← hq10] at hbx
        have HW10 := hid hw10'
        have HQ10 := hid hq10
        have h10 := H8.out.later I hb10
        have H10 := hid h10
        obtain ⟨z0, z1, z2, z3, z4, z5, z6, z7, z8⟩ := page_cells (HBX8.out.below hb10 HBX8.out.lt)
        obtain ⟨y0, y1, y2, y3, y4, y5, y6, y7, y8⟩ := page_cells hbx
        obtain ⟨-, -, b2, b3, -, -⟩ := act_cells (HA8.out.below hb10 HA8.out.lt)
        have hkx := HBX1.out.below (h10.bel I) HBX1.out.lt
        have k0 : w10.cell? ⟨qk, 0, none⟩ = some (.int .i64 f) := by rw [hkx.cell]; rfl
        have k1 : w10.cell? ⟨qk, 1, none⟩ = some (.int .i64 i) := by rw [hkx.cell]; rfl
        obtain ⟨u, hu⟩ : ∃ u, u = ofL L1 f i := ⟨_, rfl⟩
        obtain ⟨v, hv⟩ : ∃ v, v = atL L1 p b := ⟨_, rfl⟩
        obtain ⟨x, hx⟩ : ∃ x, x = ofL L1 r.kf r.ki := ⟨_, rfl⟩
        obtain ⟨S10, hS10⟩ := h10.tb
        have K1 : Hid (∀ q : Up w10, Calls Try.prog 21 #[.pointer (some ⟨t, 0, none⟩), .agg #[.int .i64 f, .int .i64 i]] q.p fun e w' => e = .returned (.int .i64 u) ∧ Below q.p.heap.size q.p w') := fun q => by rw [hu]; exact I.of (I.later hS10 q.h) HF.out HI.out
        have K2 : Hid (∀ q : Up w10, Calls Try.prog 22 #[.pointer (some ⟨B, 0, none⟩), .agg #[.int .i64 f, .int .i64 i]] q.p fun e w' => e = .returned (.int .i64 u) ∧ Below q.p.heap.size q.p w') := fun q => by rw [hu]; exact rof B B L1 f i q.p (h10.rf.below q.h) (by have := HLN1.out; omega)
        have K3 : Hid (∀ q : Up w10, Calls Try.prog 23 #[.pointer (some ⟨t, 0, none⟩), .int .i64 p, .int .i64 b] q.p fun e w' => e = .returned (.int .i64 v) ∧ Below q.p.heap.size q.p w') := fun q => by rw [hv]; exact I.att (I.later hS10 q.h) HP.out HB.out
        have K4 : Hid (∀ q : Up w10, Calls Try.prog 24 #[.pointer (some ⟨B, 0, none⟩), .int .i64 p, .int .i64 b] q.p fun e w' => e = .returned (.int .i64 v) ∧ Below q.p.heap.size q.p w') := fun q => by rw [hv]; exact (rat B B L1 p b q.p (h10.rf.below q.h) (by have := HLN1.out; omega)).mono fun _ _ ⟨e1, e2⟩ => ⟨e1, by rw [e2]; exact Below.refl _ _⟩
        have K5 : Hid (∀ q : Up w10, Calls Try.prog 21 #[.pointer (some ⟨t, 0, none⟩), .agg #[.int .i64 r.kf, .int .i64 r.ki]] q.p fun e w' => e = .returned (.int .i64 x) ∧ Below q.p.heap.size q.p w') := fun q => by rw [hx]; exact I.of (I.later hS10 q.h) HAC.out.kf HAC.out.ki
        have K6 : Hid (∀ q : Up w10, Calls Try.prog 22 #[.pointer (some ⟨B, 0, none⟩), .agg #[.int .i64 r.kf, .int .i64 r.ki]] q.p fun e w' => e = .returned (.int .i64 x) ∧ Below q.p.heap.size q.p w') := fun q => by rw [hx]; exact rof B B L1 r.kf r.ki q.p (h10.rf.below q.h) (by have := HLN1.out; omega)
        have n1 : (N != N) = false := by simp
        have n2 : (E != E) = false := by simp
        have n3 : (G != G) = false := by simp
        have n4 : (u != u) = false := by simp
        have n5 : (v != v) = false := by simp
        have n6 : (x != x) = false := by simp
        have hgt := guard45
        have hqq := eqP z.kf z.ki z.pl z.at' z.ow z.rf z.dr
        have lz0 := Up.cell z0
        have lz1 := Up.cell z1
        have lz2 := Up.cell z2
        have lz3 := Up.cell z3
        have lz4 := Up.cell z4
        have lz5 := Up.cell z5
        have lz6 := Up.cell z6
        have lz7 := Up.cell z7
        have lz8 := Up.cell z8
        have ly0 := Up.cell y0
        have ly1 := Up.cell y1
        have ly2 := Up.cell y2
        have ly3 := Up.cell y3
        have ly4 := Up.cell y4
        have ly5 := Up.cell y5
        have ly6 := Up.cell y6
        have ly7 := Up.cell y7
        have ly8 := Up.cell y8
        have lb2 := Up.cell b2
        have lb3 := Up.cell b3
        have lk0 := Up.cell k0
        have lk1 := Up.cell k1
        have hne := Up.any w10
        clear hb9 hbx hb10 hw10 hw10' hq10 h10 hkx hu hv hx hS10 HC4 b81 z0 z1 z2 z3 z4 z5 z6 z7 z8 y0 y1 y2 y3 y4 y5 y6 y7 y8 b2 b3 k0 k1
        go_upto_region 28 with fail
        rw [← HW10.out, ← HQ10.out]
        clear HW10 HQ10
        refine wp_region_up (by kernel_rfl) (by kernel_rfl) ?_
        iterate 39 (go_big_quiet_step (first | (go_at_call 21; exact Up.call (K1.out _)) | (go_at_call 22; exact Up.call (K2.out _)) | (go_at_call 23; exact Up.call (K3.out _)) | (go_at_call 24; exact Up.call (K4.out _))))
        repeat (go_big_quiet_step (first | (go_at_call 21; exact Up.call (K5.out _)) | (go_at_call 22; exact Up.call (K6.out _))))
        refine wpQuiet_nil ?_
        intro w17 hw'
        obtain ⟨⟨_, hbw⟩, rfl⟩ := hw'
        have HF17 := hid (H10.out.later I hbw)
        clear lz0 lz1 lz2 lz3 lz4 lz5 lz6 lz7 lz8 ly0 ly1 ly2 ly3 ly4 ly5 ly6 ly7 ly8 lb2 lb3 lk0 lk1 hne hbw K1 K2 K3 K4 K5 K6
        go_wp2_with fail
        exact ⟨⟨j + 1, by omega, by go_num, by rw [← HL1.out]; exact HF17.out⟩, by simp [intOf]; omega⟩
    · obtain rfl : j = l.length := by omega
      have d0 : decide ((l.length : Int) < (l.length : Int)) = false := by simp
      obtain ⟨L, hL⟩ : ∃ L, L = dL l l.length := ⟨_, rfl⟩
      rw [← hL] at hT hdl
      have hLl : L.length ≤ 80 := by omega
      obtain ⟨S, hS⟩ := hT.tb
      have C := hid (I.all hS (by omega))
      have hn := idsL_len L (anyP true 0)
      have hn2 := idsL_len L (anyP false b)
      have HT := hid hT
      obtain ⟨N, hN⟩ : ∃ N, N = idsL L (anyP true 0) := ⟨_, rfl⟩
      obtain ⟨N2, hN2⟩ : ∃ N, N = idsL L (anyP false b) := ⟨_, rfl⟩
      rw [← hN] at C hn
      rw [← hN2] at hn2
      have HN := hid hN
      have HN2 := hid hN2
      clear hL hT hdl hok hlt hS hN hN2
      go_wp2_with fail
      refine C.out.mono ?_
      rintro e w5 ⟨a5, c5, rfl, hI5, -, hb5⟩
      have h5 := HT.out.later I hb5
      have C2 := rthose B B L 0 true w5 h5.rf (by omega)
      rw [← HN.out] at C2
      have HC2 := hid C2
      have H5 := hid h5
      have HI5 := hid hI5
      clear h5 hI5 C hb5 C2 HT
      go_wp2_with fail
      refine HC2.out.mono ?_
      rintro e w6 ⟨a6, c6, rfl, hI6, hb6⟩
      have C3 := hid (rowT a5 a6 c5 c6 N w6 (HI5.out.later hb6) hI6 (by omega))
      have H6 := hid (H5.out.later I hb6)
      clear hI6 hb6 HC2 H5 HI5
      go_wp2_with fail
      refine C3.out.mono ?_
      rintro e w7 ⟨rfl, n7, rfl⟩
      have h7 := H6.out.later I (show Below w6.heap.size w6 (w6.drewN n7) from ⟨rfl, rfl, rfl, Nat.le_refl _, fun _ _ => rfl⟩)
      obtain ⟨w7, hw7⟩ : ∃ w7, w7 = w6.drewN n7 := ⟨_, rfl⟩
      rw [← hw7] at h7
      rw [← hw7]
      obtain ⟨S, hS⟩ := h7.tb
      have C4 := I.those hS (by omega) (o := b) HB.out
      rw [← HN2.out] at C4
      have HC4 := hid C4
      have H7 := hid h7
      clear h7 hw7 hS C4 C3 H6
      go_wp2_with fail
      refine HC4.out.mono ?_
      rintro e w8 ⟨a8, c8, rfl, hI8, -, hb8⟩
      have h8 := H7.out.later I hb8
      have C5 := rthose B B L b false w8 h8.rf (by omega)
      rw [← HN2.out] at C5
      have HC5 := hid C5
      have H8 := hid h8
      have HI8 := hid hI8
      clear h8 hI8 hb8 C5 HC4 H7
      go_wp2_with fail
      refine HC5.out.mono ?_
      rintro e w9 ⟨a9, c9, rfl, hI9, hb9⟩
      have C6 := hid (rowT a8 a9 c8 c9 N2 w9 (HI8.out.later hb9) hI9 (by omega))
      have H9 := hid (H8.out.later I hb9)
      clear hI9 hb9 HC5 H8 HI8
      go_wp2_with fail
      refine C6.out.mono ?_
      rintro e w10 ⟨rfl, n10, rfl⟩
      have hbe := (HB1.out.trans ((H9.out.bel I).mono HB1.out.size))
      have HBE := hid (below_drawn hbe n10)
      clear hbe C6 H9
      go_wp2_with fail
      go_ret
      exact ⟨rfl, HBE.out⟩
theorem does_walk (I : TbI Tb) (a : Option Addr) (cap : Nat) (l : List Ac) (f i p b : Int) (w : World) (hc : ActsAt w a l) (hf : (Lit.int .i64 f).wf = true) (hi0 : (Lit.int .i64 i).wf = true) (hp : (Lit.int .i64 p).wf = true) (hb : (Lit.int .i64 b).wf = true) :
    Calls Try.prog 3 #[.slice a l.length cap, .agg #[.int .i64 f, .int .i64 i], .int .i64 p, .int .i64 b] w fun e w' => e = .returned (.bool true) ∧ Below w.heap.size w w' := by
  by_cases h : l.length ≤ 80
  · exact does_in I a cap l f i p b w hc h hf hi0 hp hb
  · exact does_out I a cap l.length f i p b w (by simp only [decide_eq_true_eq]; omega)
end
end Go.Proofs.Ytponlldgnlckfaa
