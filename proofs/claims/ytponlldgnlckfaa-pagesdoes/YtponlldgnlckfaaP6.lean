/-
  The contracts of Refer and Drop.
-/
import Derived.Test.YtponlldgnlckfaaP5
set_option maxRecDepth 100000
namespace Go.Proofs.Ytponlldgnlckfaa
open Go.RowKit

section
variable {w0 w w' : World} {t mp mf ms : Nat} {L : List Pg} {M : Int}
theorem get_no (h : PT w0 w t mp mf ms L) {id : Int} (hi : (Lit.int .i64 id).wf = true) (hh : has L id = false) :
    Calls Try.prog 19 #[.pointer (some ⟨t, 0, none⟩), .int .i64 id] w fun e w' => e = .returned (.tuple #[.agg #[.int .i64 0, .int .i64 0, .int .i64 0, .int .i64 0, .int .i64 0, .int .i64 0, .int .i64 0, .bool false, .bool false], .int .i64 2]) ∧ Below w.heap.size w w' := by
  have := pget h hi
  have e1 : getE L id = 2 := by unfold getE; rw [hh]; rfl
  have e2 : getL L id = gone := by unfold getL; rw [hh]; rfl
  rw [e1, e2] at this
  exact this
theorem get_yes (h : PT w0 w t mp mf ms L) {k : Nat} (hi : (Lit.int .i64 (k : Int)).wf = true) (hk : k < L.length) (hg : (pg L k).gn = false) {y : Pg} (hy : y = pg L k) :
    Calls Try.prog 19 #[.pointer (some ⟨t, 0, none⟩), .int .i64 k] w fun e w' => e = .returned (.tuple #[.agg #[.int .i64 y.kf, .int .i64 y.ki, .int .i64 y.pl, .int .i64 y.at', .int .i64 y.ow, .int .i64 y.rf, .int .i64 0, .bool false, .bool y.dr], .int .i64 0]) ∧ Below w.heap.size w w' := by
  have := pget h hi
  have e1 : getE L k = 0 := getE_has.2 ((has_nat L k).2 ⟨hk, hg⟩)
  rw [e1, getL_nat hk hg, ← hy] at this
  exact this
theorem nine_row {w1 : World} (y : Pg) : RowAt (w1.alloc (.cells #[.int .i64 y.kf, .int .i64 y.ki, .int .i64 y.pl, .int .i64 y.at', .int .i64 y.ow, .int .i64 y.rf, .int .i64 0, .bool false, .bool y.dr] 45)) w1.heap.size 45 (pc y).toList := RowAt.new w1 (pc y) 45

theorem ref_turnL {L : List Pg} {id n : Int} (h : refE L id n = 0) : refL L id n = turnL L id (refG n) := by
  have h1 := (ref_ok h).1
  unfold refL turnL
  rw [if_pos h, if_pos h1]
set_option maxHeartbeats 4000000 in
theorem pref (h : PT w0 w t mp mf ms L) (hO : Ok M L) (hM : M ≤ 900000000) (hL : L.length < 900000) {id n : Int} (hi : (Lit.int .i64 id).wf = true) :
    Calls Try.prog 31 #[.pointer (some ⟨t, 0, none⟩), .int .i64 id, .int .i64 n] w fun e w' => e = .returned (.tuple #[.int .i64 (refN L id n), .int .i64 (refE L id n)]) ∧ PT w0 w' t mp mf ms (refL L id n) ∧ Out (Fo t mp mf ms) w w' := by
  have hb := below_alloc w (.cells #[.int .i64 n] 3)
  have hbx := RowAt.new w #[.int .i64 n] 3
  have h1 := h.later hb
  cases hh : has L id with
  | false =>
    have HC := hid (get_no h1 hi hh)
    have he : refE L id n = 2 := by unfold refE; rw [hh]; rfl
    have HE := hid he
    have HN : Hid (refN L id n = 0) := by show _ = _; unfold refN; rw [he]; rfl
    have HL : Hid (refL L id n = L) := ref_err (by rw [he]; decide)
    have H1 := hid h1
    have HB := hid hb
    clear h hh he h1 hO hb hbx hi
    go_enter Try.func31, Try.ntmps31
    go_wp2_with fail
    refine HC.out.mono ?_
    rintro e w1 ⟨rfl, hb1⟩
    have HB1 := hid hb1
    clear hb1
    go_wp2_with fail
    go_ret2
    have hl := bel_trans HB1.out (below_alloc w1 (.cells #[.int .i64 0, .int .i64 0, .int .i64 0, .int .i64 0, .int .i64 0, .int .i64 0, .int .i64 0, .bool false, .bool false] 45)) (Nat.le_refl _)
    exact ⟨by rw [HN.out, HE.out]; rfl, by rw [HL.out]; exact H1.out.later hl, Out.ofBelow (bel_trans HB.out hl (Nat.le_refl _))⟩
  | true =>
    obtain ⟨k, rfl, hk, hgn⟩ := has_nat' hh
    have hx : refE L k n = if n < -1000 ∨ 1000 < n ∨ (pg L k).rf + n < 0 then 1 else 0 := by unfold refE; rw [if_pos hh]; rfl
    have hr := hO.refs k hk
    obtain ⟨y, hy⟩ : ∃ y, y = pg L k := ⟨_, rfl⟩
    have HC := hid (get_yes h1 hi hk hgn hy)
    rw [← hy] at hx hr
    by_cases hbad : n < -1000 ∨ 1000 < n ∨ y.rf + n < 0
    · have he : refE L k n = 1 := by rw [hx, if_pos hbad]
      have HE := hid he
      have HN : Hid (refN L k n = 0) := by show _ = _; unfold refN; rw [he]; rfl
      have HL : Hid (refL L k n = L) := ref_err (by rw [he]; decide)
      have H1 := hid h1
      have HB := hid hb
      have HBX := hid hbx
      have hw : decide (n < -1000) = true ∨ (decide (n < -1000) = false ∧ decide (1000 < n) = true) ∨ (decide (n < -1000) = false ∧ decide (1000 < n) = false ∧ -1000 ≤ n ∧ n ≤ 1000 ∧ decide (y.rf + n < 0) = true) := by
        simp only [decide_eq_true_eq, decide_eq_false_iff_not]
        omega
      obtain ⟨r, hrr⟩ : ∃ r, r = y.rf := ⟨_, rfl⟩
      have HRR := hid hrr
      rw [← hrr] at hw hr
      obtain ⟨r0, r1⟩ := hr
      clear h hh he h1 hO hb hbx hi hx hy hgn hrr hbad
      rcases hw with d1 | ⟨d1, d2⟩ | ⟨d1, d2, d3, d4, d5⟩
      all_goals
        go_enter Try.func31, Try.ntmps31
        go_wp2_with fail
        refine HC.out.mono ?_
        rintro e w1 ⟨rfl, hb1⟩
        have HB1 := hid hb1
        obtain ⟨w2, hw2⟩ : ∃ w2, w2 = w1.alloc (.cells #[.int .i64 y.kf, .int .i64 y.ki, .int .i64 y.pl, .int .i64 y.at', .int .i64 y.ow, .int .i64 y.rf, .int .i64 0, .bool false, .bool y.dr] 45) := ⟨_, rfl⟩
        have HW2 := hid hw2
        have hl : Below (w.alloc (.cells #[.int .i64 n] 3)).heap.size (w.alloc (.cells #[.int .i64 n] 3)) w2 := hw2 ▸ bel_trans hb1 (below_alloc _ _) (Nat.le_refl _)
        have c0 : w2.cell? ⟨w.heap.size, 0, none⟩ = some (.int .i64 n) := by rw [(HBX.out.below hl HBX.out.lt).cell]; rfl
        have c5 : w2.cell? ⟨w1.heap.size, 5, none⟩ = some (.int .i64 r) := by rw [HRR.out, hw2, (nine_row (w1 := w1) y).cell]; rfl
        have HLB := hid hl
        clear hb1 hw2 hl
        go_upto_region 2 with fail
        rw [← HW2.out]
        go_wp2_with fail
        go_ret2
        exact ⟨by rw [HN.out, HE.out]; rfl, by rw [HL.out]; exact H1.out.later HLB.out, Out.ofBelow (bel_trans HB.out HLB.out (Nat.le_refl _))⟩
    · have he : refE L k n = 0 := by rw [hx, if_neg hbad]
      have HE := hid he
      have HN : Hid (refN L k n = y.rf + n) := by show _ = _; unfold refN; rw [if_pos he, hy]; rfl
      have HL : Hid (refL L k n = turnL L k (refG n)) := ref_turnL he
      have H1 := hid h1
      have HB := hid hb
      have HBX := hid hbx
      have HWF := hid hi
      have hge : getE L k = 0 := getE_has.2 hh
      have HCH : Hid (∀ W, Below (w.alloc (.cells #[.int .i64 n] 3)).heap.size (w.alloc (.cells #[.int .i64 n] 3)) W → Calls Try.prog 40 #[.pointer (some ⟨t, 0, none⟩), .int .i64 k, .func (.func 42) #[] #[.pointer (some ⟨w.heap.size, 0, none⟩)]] W fun e w' => e = .returned (.int .i64 0) ∧ MapG 3 mkI w' mp (L.countP liveP) (GP (turnL L k (refG n))) ∧ Apart mp W w') := by
        intro W hW
        have hry : 0 ≤ (pg L (k : Int).toNat).rf ∧ (pg L (k : Int).toNat).rf ≤ 1000000000 := by
          have e : pg L (k : Int).toNat = y := by rw [hy]; rfl
          rw [e]; omega
        have := pchange (h1.later hW).q (live_lt hL) hi (refG n) (fun _ => rfl) 42 [.pointer (some ⟨w.heap.size, 0, none⟩)] (Or.inr (Or.inl ⟨rfl, _, rfl⟩))
          (fun _ W' b hW' _ hr' => tref n w.heap.size W' b _ hr' (by rw [((hbx.below hW hbx.lt).below hW' (hbx.below hW hbx.lt).lt).cell]; rfl) hry (by omega))
        rwa [hge] at this
      have d1 : decide (n < -1000) = false := by simp; omega
      have d2 : decide (1000 < n) = false := by simp; omega
      have d3 : -1000 ≤ n := by omega
      have d4 : n ≤ 1000 := by omega
      obtain ⟨r, hrr⟩ : ∃ r, r = y.rf := ⟨_, rfl⟩
      have HRR := hid hrr
      rw [← hrr] at hr hbad HN
      have d5 : decide (r + n < 0) = false := by simp; omega
      obtain ⟨r0, r1⟩ := hr
      have hwr : IntKind.i64.wrap (r + n) = r + n := by
        rw [IntKind.wrap_i64]; omega
      have HWR := hid hwr
      have HMP : Hid (mp < w.heap.size) := h.p.lt
      clear h hh he h1 hO hb hbx hi hx hy hgn hrr hbad hge hwr
      go_enter Try.func31, Try.ntmps31
      go_wp2_with fail
      refine HC.out.mono ?_
      rintro e w1 ⟨rfl, hb1⟩
      have HB1 := hid hb1
      obtain ⟨w2, hw2⟩ : ∃ w2, w2 = w1.alloc (.cells #[.int .i64 y.kf, .int .i64 y.ki, .int .i64 y.pl, .int .i64 y.at', .int .i64 y.ow, .int .i64 y.rf, .int .i64 0, .bool false, .bool y.dr] 45) := ⟨_, rfl⟩
      have HW2 := hid hw2
      have hl : Below (w.alloc (.cells #[.int .i64 n] 3)).heap.size (w.alloc (.cells #[.int .i64 n] 3)) w2 := hw2 ▸ bel_trans hb1 (below_alloc _ _) (Nat.le_refl _)
      have hbx2 := HBX.out.below hl HBX.out.lt
      have hnr : RowAt w2 w1.heap.size 45 (pc y).toList := by rw [hw2]; exact nine_row y
      have c0 : w2.cell? ⟨w.heap.size, 0, none⟩ = some (.int .i64 n) := by rw [hbx2.cell]; rfl
      have c5 : w2.cell? ⟨w1.heap.size, 5, none⟩ = some (.int .i64 r) := by rw [HRR.out, hnr.cell]; rfl
      have HLB := hid hl
      have hs1 : w.heap.size + 1 ≤ w1.heap.size := by have := HB1.out.size; simpa using this
      have HCC : Hid (∀ m, Calls Try.prog 40 #[.pointer (some ⟨t, 0, none⟩), .int .i64 k, .func (.func 42) #[] #[.pointer (some ⟨w.heap.size, 0, none⟩)]] (w2.drewN m) fun e w' => e = .returned (.int .i64 0) ∧ MapG 3 mkI w' mp (L.countP liveP) (GP (turnL L k (refG n))) ∧ Apart mp w2 w' ∧ w'.cell? ⟨w.heap.size, 0, none⟩ = some (.int .i64 n) ∧ w'.cell? ⟨w1.heap.size, 5, none⟩ = some (.int .i64 r)) := by
        intro m
        refine (HCH.out _ (below_drawn hl m)).mono ?_
        rintro e w' ⟨he, hm, ha⟩
        have ha' : Apart mp w2 w' := ⟨ha.os, ha.tape, ha.output, ha.size, ha.block⟩
        have hmp := HMP.out
        refine ⟨he, hm, ha', ?_, ?_⟩
        · rw [(hbx2.apart ha' (by omega)).cell]; rfl
        · rw [(hnr.apart ha' (by omega)).cell, HRR.out]; rfl
      clear hb1 hw2 hl hbx2 hnr hs1
      go_upto_region 2 with fail
      rw [← HW2.out]
      go_wp2_with fail
      go_region_with (go_at_call 40; refine (HCC.out 1).mono ?_; rintro e w3 ⟨rfl, hm3, ha3, q0, q5⟩; have HM3 := hid hm3; have HA3 := hid ha3; clear hm3 ha3)
      all_goals
        go_wp2
        go_ret2
        exact ⟨by rw [HN.out, HE.out]; first | (show Ending.returned (.tuple #[.int .i64 (IntKind.i64.wrap (r + n)), .int .i64 0]) = _; rw [HWR.out]) | rfl, by rw [HL.out]; exact H1.out.turn HLB.out HM3.out HA3.out (fun _ => rfl) (fun _ => rfl) (fun _ => rfl) (fun _ => rfl) (fun _ => rfl), (Out.ofBelow (bel_trans HB.out HLB.out (Nat.le_refl _))).trans (out_apart HA3.out (Or.inr (Or.inl rfl)))⟩
end
end Go.Proofs.Ytponlldgnlckfaa
