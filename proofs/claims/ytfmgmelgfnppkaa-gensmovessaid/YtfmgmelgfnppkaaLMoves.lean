/-
  The law GensMoves walked.
-/
import Derived.Test.YtfmgmelgfnppkaaRow
namespace Go.Proofs.Ytfmgmelgfnppkaa
open Go.RowKit

theorem moves_out (a : Option Addr) (cap n : Nat) (f t i : Int) (w : World)
    (h : decide ((80 : Int) < (n : Int)) = true ∨ (decide ((80 : Int) < (n : Int)) = false ∧ decide (f < 0) = true) ∨ (decide ((80 : Int) < (n : Int)) = false ∧ decide (f < 0) = false ∧ decide (16777216 < f) = true) ∨
      (decide ((80 : Int) < (n : Int)) = false ∧ decide (f < 0) = false ∧ decide (16777216 < f) = false ∧ decide (t < 0) = true) ∨
      (decide ((80 : Int) < (n : Int)) = false ∧ decide (f < 0) = false ∧ decide (16777216 < f) = false ∧ decide (t < 0) = false ∧ decide (16777216 < t) = true) ∨
      (decide ((80 : Int) < (n : Int)) = false ∧ decide (f < 0) = false ∧ decide (16777216 < f) = false ∧ decide (t < 0) = false ∧ decide (16777216 < t) = false ∧ (f == t) = true)) :
    Calls Try.prog 8 #[.slice a n cap, .int .i64 f, .int .i64 t, .int .i64 i] w fun e w' => e = .returned (.bool true) ∧ Below w.heap.size w w' := by
  rcases h with q1 | ⟨q1, q2⟩ | ⟨q1, q2, q3⟩ | ⟨q1, q2, q3, q4⟩ | ⟨q1, q2, q3, q4, q5⟩ | ⟨q1, q2, q3, q4, q5, q6⟩
  all_goals
    go_enter Try.func8, Try.ntmps8
    go_wp2_with (go_at_call 9; refine (works_any _).mono ?_; rintro e w1 ⟨rfl, hb⟩)
    go_ret
    exact ⟨rfl, hb⟩

set_option maxRecDepth 100000 in
set_option maxHeartbeats 8000000 in
theorem moves_in (a : Option Addr) (cap : Nat) (l : List Ac) (f t i : Int) (w : World) (hl : l.length ≤ 80) (hc : ActsAt w a l) (hi : (Lit.int .i64 i).wf = true) (hf : okI f = true) (ht : okI t = true) (hft : f ≠ t) :
    Calls Try.prog 8 #[.slice a l.length cap, .int .i64 f, .int .i64 t, .int .i64 i] w fun e w' => e = .returned (.bool true) ∧ Below w.heap.size w w' := by
  have hf1 := okI_iff.1 hf
  have ht1 := okI_iff.1 ht
  have d1 : decide ((80 : Int) < (l.length : Int)) = false := by simp; omega
  have d2 : decide (f < 0) = false := by simp; omega
  have d3 : decide (16777216 < f) = false := by simp; omega
  have d4 : decide (t < 0) = false := by simp; omega
  have d5 : decide (16777216 < t) = false := by simp; omega
  have d6 : (f == t) = false := by simpa using hft
  have HM : Hid (may f t = true) := by show _ = _; simp [may, ht, hft]
  have HM2 : Hid (may t f = true) := by show _ = _; simp [may, hf]; exact fun e => hft e.symm
  have HF : Hid (okI f = true) := hf
  have HFW : Hid ((Lit.int .i64 f).wf = true) := wf_ok hf
  have HF0 : Hid (0 ≤ f ∧ 0 ≤ t) := ⟨hf1.1, ht1.1⟩
  clear hf1 ht1 hf ht
  go_enter Try.func8, Try.ntmps8
  go_wp2_with fail
  refine (works_any _).mono ?_
  rintro e w1 ⟨rfl, hb1⟩
  go_wp2_with fail
  refine (newO hb1).mono ?_
  rintro e w2 ⟨x, m, rfl, h2, -⟩
  clear hb1 d1
  go_wp2_with fail
  go_loopw [11] (fun s11 wr => ∃ j : Nat, j ≤ l.length ∧ s11 = .int .i64 j ∧ Ow w wr x m (doN l j)) (fun s11 _ => l.length - (intOf s11).toNat)
  case atStart => exact ⟨0, by omega, rfl, h2⟩
  case round =>
    clear h2
    obtain ⟨j, hj, rfl, hT⟩ := hrel
    have hdl := doN_len l j hj
    by_cases hlt : j < l.length
    · obtain ⟨b, off, rfl, k0, k1, k2, k3, hw⟩ := (hc.below hT.bel).at hlt
      have hD := doN_succ l j hlt
      obtain ⟨r, hr⟩ : ∃ r, r = l[j] := ⟨_, rfl⟩
      rw [← hr] at k0 k1 k2 k3 hw hD
      have d0 : decide ((j : Int) < (l.length : Int)) = true := by simp; omega
      have C := hid (doO hT (by omega) r hw)
      have HD : Hid (doN l (j + 1) = doA (doN l j) r) := hD
      clear hr hw hD hT
      go_wp2_with fail
      refine C.out.mono ?_
      rintro e w3 ⟨rfl, h3, -⟩
      rw [← HD.out] at h3
      clear C
      go_wp2_with fail
      exact ⟨⟨j + 1, by omega, by go_num, h3⟩, by simp [intOf]; omega⟩
    · obtain rfl : j = l.length := by omega
      have d0 : decide ((l.length : Int) < (l.length : Int)) = false := by simp
      obtain ⟨L, hL⟩ : ∃ L, L = doN l l.length := ⟨_, rfl⟩
      rw [← hL] at hT hdl
      have hLl : L.length < 900000 := by omega
      have HOK : Hid (Ok L) := hT.ls.ok
      clear hL hdl hlt hc
      have C1 := hid (countO hT (by omega) t)
      clear hT
      obtain ⟨n0, hn0⟩ : ∃ n0, n0 = cntL L t := ⟨_, rfl⟩
      rw [← hn0] at C1
      have HN0 : Hid (n0 = cntL L t) := hn0
      obtain ⟨eb, heb⟩ : ∃ eb, eb = ((n0 : Int) == 0) := ⟨_, rfl⟩
      have HEB : Hid (eb = ((n0 : Int) == 0)) := heb
      have hq0 : ((n0 : Int) == 0) = eb := heb.symm
      clear hn0 heb
      go_wp2_with fail
      refine C1.out.mono ?_
      rintro e w3 ⟨rfl, h3, -⟩
      have C2 := hid (oldO h3 hi)
      clear h3 C1
      obtain ⟨wa, hwa⟩ : ∃ v, v = oldN L i := ⟨_, rfl⟩
      rw [← hwa] at C2
      have HWA : Hid (wa = oldN L i) := hwa
      clear hwa
      go_wp2_with fail
      refine C2.out.mono ?_
      rintro e w4 ⟨rfl, h4, -⟩
      have C3 := hid (groupO h4 hi)
      clear h4 C2
      obtain ⟨g, hg⟩ : ∃ v, v = grpN L i := ⟨_, rfl⟩
      rw [← hg] at C3
      have HG : Hid (g = grpN L i) := hg
      clear hg
      go_wp2_with fail
      refine C3.out.mono ?_
      rintro e w5 ⟨rfl, h5, -⟩
      have C4 := hid (orderO (h5.later (below_alloc w5 (.cells #[.int .i64 f] 3))) (by omega) 1 (G := [f]) (Ints.one (RowAt.new w5 #[.int .i64 f] 3) HFW.out) (by simp))
      clear h5 C3
      go_wp2_with fail
      refine C4.out.mono ?_
      rintro e w6 ⟨a6, c6, N, hN, rfl, hI, h6, -⟩
      have HN : Hid (N = iL L [f]) := hN
      have HNL : Hid (N.length = cntL L f) := by show _ = _; rw [hN, iL_len HOK.out]
      have HI : Hid (Ints w6 a6 N) := hI
      have HMI : Hid (MapIs w6 m L) := h6.ls.m
      have C5 := hid (moveO h6 (by omega) f t)
      clear hN hI h6 C4
      have hn1 : moveN L f t = N.length := by rw [HNL.out]; simp [moveN, HM.out]
      rw [hn1] at C5
      clear hn1
      go_wp2_with fail
      refine C5.out.mono ?_
      rintro e w7 ⟨rfl, h7, ha7⟩
      have HI7 : Hid (Ints w7 a6 N) := HI.out.apart HMI.out ha7
      have C6 := hid (oldO h7 hi)
      rw [old_move, ← HWA.out] at C6
      clear h7 ha7 HI HMI C5
      go_wp2_with fail
      refine C6.out.mono ?_
      rintro e w8 ⟨rfl, h8, hb8⟩
      have HI8 : Hid (Ints w8 a6 N) := HI7.out.later hb8
      have z1 : (wa != wa) = false := by simp
      have C7 := hid (groupO h8 hi)
      rw [grp_move HM.out i HF0.out.1, ← HG.out] at C7
      clear h8 hb8 HI7 C6
      have z2 : (t != t) = false := by simp
      have z3 : (g != g) = false := by simp
      have z4 : ((N.length : Int) != (N.length : Int)) = false := by simp
      have hway : Hid ((g == f) = true ∧ (g != f) = false ∧ decide (0 ≤ g) = true ∧ (if g = f then t else g) = t ∨ (g == f) = false ∧ (g != f) = true ∧ (if g = f then t else g) = g) := by
        by_cases hgf : g = f
        · exact Or.inl ⟨by simpa using hgf, by simp [hgf], by have := HF0.out; simp; omega, by rw [if_pos hgf]⟩
        · exact Or.inr ⟨by simpa using hgf, by simpa using hgf, by rw [if_neg hgf]⟩
      have hw2 := hway.out
      clear hway
      rcases hw2 with ⟨q1, q2, q3, q4⟩ | ⟨q1, q2, q4⟩
      all_goals
        rw [q4] at C7
        clear q4
        go_wp2_with fail
        refine C7.out.mono ?_
        rintro e w9 ⟨rfl, h9, hb9⟩
        have HI9 : Hid (Ints w9 a6 N) := HI8.out.later hb9
        have HB9 : Hid (Below w.heap.size w w9) := h9.bel
        have HLM : (moveL L f t).length = L.length := moveL_len _ _ _
        have C8 := hid (moveO h9 (by omega) t f)
        have HM9 : Hid (MapIs w9 m (moveL L f t)) := h9.ls.m
        clear h9 hb9 HI8 C7 HLM
        cases eb with
        | false =>
          go_wp2_with fail
          go_ret
          exact ⟨rfl, HB9.out⟩
        | true =>
          have hz : cntL L t = 0 := by
            have := HEB.out
            rw [HN0.out] at this
            simpa using this.symm
          have e1 : moveN (moveL L f t) t f = N.length := by
            unfold moveN
            rw [if_pos HM2.out, cnt_to HM.out, hz, HNL.out, Nat.zero_add]
          have e2 : moveL (moveL L f t) t f = L := move_back HM.out HF.out hz
          rw [e1, e2] at C8
          have z5 : ((N.length : Int) == (N.length : Int)) = true := by simp
          have z6 : (g == g) = true := by simp
          clear e1 e2 hz
          go_wp2_with fail
          refine C8.out.mono ?_
          rintro e w10 ⟨rfl, h10, ha10⟩
          have HI10 : Hid (Ints w10 a6 N) := HI9.out.apart HM9.out ha10
          have C9 := hid (orderO (h10.later (below_alloc w10 (.cells #[.int .i64 f] 3))) (by omega) 1 (G := [f]) (Ints.one (RowAt.new w10 #[.int .i64 f] 3) HFW.out) (by simp))
          clear h10 ha10 HI9 HM9 C8
          go_wp2_with fail
          refine C9.out.mono ?_
          rintro e w11 ⟨a11, c11, N2, hN2, rfl, hI11, h11, hb11⟩
          rw [← HN.out] at hN2
          subst hN2
          have hI12 := (HI10.out.later (below_alloc w10 (.cells #[.int .i64 f] 3))).later hb11
          have C10 := hid (rowT a11 a6 c11 c6 N2 w11 hI11 hI12 (by have := HNL.out; have := cnt_le L f; omega))
          have C11 := hid (fun n => groupO (h11.later (show Below w11.heap.size w11 (w11.drewN n) from ⟨rfl, rfl, rfl, Nat.le_refl _, fun _ _ => rfl⟩)) hi)
          rw [← HG.out] at C11
          clear hI11 hI12 h11 hb11 HI10 C9
          go_wp2_with fail
          refine C10.out.mono ?_
          rintro e w12 ⟨rfl, n12, rfl⟩
          go_wp2_with fail
          refine (C11.out n12).mono ?_
          rintro e w13 ⟨rfl, h13, -⟩
          have HB13 := hid h13.bel
          clear h13 C11 C10
          go_wp2_with fail
          go_ret
          exact ⟨rfl, HB13.out⟩
theorem moves_walk (a : Option Addr) (cap : Nat) (l : List Ac) (f t i : Int) (w : World) (hc : ActsAt w a l) (hi : (Lit.int .i64 i).wf = true) :
    Calls Try.prog 8 #[.slice a l.length cap, .int .i64 f, .int .i64 t, .int .i64 i] w fun e w' => e = .returned (.bool true) ∧ Below w.heap.size w w' := by
  by_cases h : l.length ≤ 80 ∧ okI f = true ∧ okI t = true ∧ f ≠ t
  · exact moves_in a cap l f t i w h.1 hc hi h.2.1 h.2.2.1 h.2.2.2
  · refine moves_out a cap _ f t i w ?_
    simp only [okI_iff] at h
    simp only [decide_eq_true_eq, decide_eq_false_iff_not, beq_iff_eq]
    omega
end Go.Proofs.Ytfmgmelgfnppkaa
