/-
  The law PagesRefs walked.
-/
import Derived.Test.YtponlldgnlckfaaSt
import Derived.BigQuiet
import Derived.Deep.CutBlock
import Derived.Deep.DeepCutAuto
namespace Go.Proofs.Ytponlldgnlckfaa
open Go.RowKit

theorem has1 {x : Pg} (h : x.gn = false) : has [x] 0 = true := by simp [has, pg, h]
theorem pg1 (x : Pg) : pg [x] (0 : Int).toNat = x := rfl
theorem ref1 {x : Pg} (h : x.gn = false) {n : Int} (h1 : -1000 ≤ n) (h2 : n ≤ 1000) (h3 : 0 ≤ x.rf + n) : refE [x] 0 n = 0 ∧ refN [x] 0 n = x.rf + n ∧ refL [x] 0 n = [refG n x] := by
  have e : refE [x] 0 n = 0 := by
    unfold refE
    rw [if_pos (has1 h), pg1, if_neg (by omega)]
  exact ⟨e, by unfold refN; rw [if_pos e, pg1], by unfold refL; rw [if_pos e]; rfl⟩
theorem ref1_no {x : Pg} (h : x.gn = false) {n : Int} (h3 : x.rf + n < 0) : refE [x] 0 n = 1 ∧ refN [x] 0 n = 0 ∧ refL [x] 0 n = [x] := by
  have e : refE [x] 0 n = 1 := by
    unfold refE
    rw [if_pos (has1 h), pg1, if_pos (by omega)]
  exact ⟨e, by unfold refN; rw [if_neg (by rw [e]; decide)], ref_err (by rw [e]; decide)⟩
theorem put1 {x : Pg} (h : x.gn = false) (h0 : x.pl = 0) {p : Int} (h1 : 0 ≤ p) (h2 : p ≤ 2) : putE [x] 0 p 0 = 0 ∧ putL [x] 0 p 0 = [putG p 0 x] := by
  have hb : badP p 0 = false := (bad_iff p 0).2 ⟨h1, h2, by omega, fun _ => rfl⟩
  have ha : atL [x] p 0 = -1 := by
    unfold atL
    by_cases hp : p = 0
    · rw [if_pos hp]
    · rw [if_neg hp]
      refine fx_none fun i hi => ?_
      have : i = 0 := by simpa using hi
      subst this
      show spotP p 0 x = false
      cases hs : spotP p 0 x with
      | false => rfl
      | true => rw [spotP_iff] at hs; rw [h0] at hs; exact absurd hs.2.1.symm hp
  have e : putE [x] 0 p 0 = 0 := by
    unfold putE
    rw [if_pos (has1 h), if_neg (by rw [hb]; decide), ha, if_neg (by omega)]
  exact ⟨e, by unfold putL; rw [if_pos e]; rfl⟩
theorem put1_no {x : Pg} (h : x.gn = false) {p : Int} (h1 : p < 0 ∨ 2 < p) : putE [x] 0 p 0 = 1 ∧ putL [x] 0 p 0 = [x] := by
  have hb : badP p 0 = true := by
    cases hb : badP p 0 with
    | true => rfl
    | false => have := (bad_iff p 0).1 hb; omega
  have e : putE [x] 0 p 0 = 1 := by
    unfold putE
    rw [if_pos (has1 h), if_pos hb]
  exact ⟨e, put_err (by rw [e]; decide)⟩
theorem drop1 {x : Pg} (h : x.gn = false) : dropE [x] 0 = if 0 < x.rf ∨ x.pl ≠ 0 then 4 else 0 := by
  unfold dropE
  rw [if_pos (has1 h), pg1]

section
variable {Tb : World → World → Nat → (Nat → Prop) → List Pg → Prop}
set_option maxRecDepth 100000 in
set_option maxHeartbeats 8000000 in
theorem refs_out (I : TbI Tb) (n s p : Int) (w : World) (h : decide (n < 0) = true ∨ (decide (n < 0) = false ∧ decide (1000 < n) = true) ∨ (decide (n < 0) = false ∧ decide (1000 < n) = false ∧ decide (s < 0) = true) ∨ (decide (n < 0) = false ∧ decide (1000 < n) = false ∧ decide (s < 0) = false ∧ decide (1000 < s) = true)) :
    Calls Try.prog 8 #[.int .i64 n, .int .i64 s, .int .i64 p] w fun e w' => e = .returned (.bool true) ∧ Below w.heap.size w w' := by
  have HW := hid (fun w => works_any I w)
  rcases h with q1 | ⟨q1, q2⟩ | ⟨q1, q2, q3⟩ | ⟨q1, q2, q3, q4⟩
  all_goals
    go_enter Try.func8, Try.ntmps8
    go_wp2_with (go_at_call 10; refine (HW.out _).mono ?_; rintro e w1 ⟨rfl, hb⟩)
    go_ret
    exact ⟨rfl, hb⟩

def y0 : Pg := ⟨-1, 0, 0, 0, 1, 0, false, false⟩
set_option maxRecDepth 100000 in
set_option maxHeartbeats 8000000 in
theorem refs_in (I : TbI Tb) (n s p : Int) (w : World) (n0 : 0 ≤ n) (n1 : n ≤ 1000) (s0 : 0 ≤ s) (s1 : s ≤ 1000) (hp : (Lit.int .i64 p).wf = true) :
    Calls Try.prog 8 #[.int .i64 n, .int .i64 s, .int .i64 p] w fun e w' => e = .returned (.bool true) ∧ Below w.heap.size w w' := by
  have t1 : decide (n < 0) = false := by simp; omega
  have t2 : decide (1000 < n) = false := by simp; omega
  have t3 : decide (s < 0) = false := by simp; omega
  have t4 : decide (1000 < s) = false := by simp; omega
  have m1 : makeL [] (-1) 0 1 = [y0] ∧ makeR [] (-1) 0 = 0 ∧ makeE [] (-1) 0 = 0 := ⟨rfl, rfl, rfl⟩
  have O1 : Ok 0 [y0] := by
    have := ok_make Ok.nil (Int.le_refl _) (-1) 0 1
    rwa [m1.1] at this
  obtain ⟨r1, r2, r3⟩ := ref1 (x := y0) rfl (n := n) (by omega) n1 (by show 0 ≤ 0 + n; omega)
  have r2' : refN [y0] 0 n = n := by rw [r2]; show 0 + n = n; omega
  have O2 : Ok 1000 [refG n y0] := by
    have := ok_ref O1 0 n
    rw [r3] at this
    exact this.more (by omega)
  have O3 : Ok 1000 (putL [refG n y0] 0 p 0) := ok_put O2 0 p 0
  obtain ⟨L3, hL3⟩ : ∃ L3, L3 = putL [refG n y0] 0 p 0 := ⟨_, rfl⟩
  obtain ⟨E, hE⟩ : ∃ E, E = putE [refG n y0] 0 p 0 := ⟨_, rfl⟩
  have O4 : Ok 2000 (refL L3 0 (-s)) := by
    rw [hL3]; exact (ok_ref O3 0 (-s)).more (by omega)
  have hl3 : L3.length < 900000 := by rw [hL3, len_put]; simp
  rw [← hL3] at O3
  obtain ⟨L4, hL4⟩ : ∃ L4, L4 = refL L3 0 (-s) := ⟨_, rfl⟩
  obtain ⟨m, hm⟩ : ∃ m, m = refN L3 0 (-s) := ⟨_, rfl⟩
  obtain ⟨z, hz⟩ : ∃ z, z = refE L3 0 (-s) := ⟨_, rfl⟩
  obtain ⟨d, hd⟩ : ∃ d, d = dropE L4 0 := ⟨_, rfl⟩
  have hl4 : L4.length < 900000 := by rw [hL4, len_ref]; exact hl3
  rw [← hL4] at O4
  -- what all comes to
  have way : ∃ x : Pg, x.gn = false ∧ L3 = [x] ∧ x.rf = n ∧ ((E = 0 ∧ 0 ≤ p ∧ p ≤ 2 ∧ x.pl = p) ∨ (E = 1 ∧ (p < 0 ∨ 2 < p) ∧ x.pl = 0)) := by
    by_cases hpp : 0 ≤ p ∧ p ≤ 2
    · obtain ⟨p1, p2⟩ := put1 (x := refG n y0) rfl rfl hpp.1 hpp.2
      exact ⟨putG p 0 (refG n y0), rfl, by rw [hL3, p2], by show 0 + n = n; omega, Or.inl ⟨by rw [hE, p1], hpp.1, hpp.2, rfl⟩⟩
    · obtain ⟨p1, p2⟩ := put1_no (x := refG n y0) rfl (p := p) (by omega)
      exact ⟨refG n y0, rfl, by rw [hL3, p2], by show 0 + n = n; omega, Or.inr ⟨by rw [hE, p1], by omega, rfl⟩⟩
  have way2 : (E = 0 ∧ 0 ≤ p ∧ p ≤ 2 ∨ E = 1 ∧ (p < 0 ∨ 2 < p)) ∧ ((s ≤ n ∧ z = 0 ∧ m = n - s ∧ d = if 0 < n - s ∨ (E = 0 ∧ p ≠ 0) then 4 else 0) ∨ (n < s ∧ z = 1 ∧ d = if 0 < n ∨ (E = 0 ∧ p ≠ 0) then 4 else 0)) := by
    obtain ⟨x, xg, xl, xr, hx⟩ := way
    refine ⟨by omega, ?_⟩
    have hpl : (x.pl ≠ 0) ↔ (E = 0 ∧ p ≠ 0) := by omega
    by_cases hs : s ≤ n
    · left
      obtain ⟨a1, a2, a3⟩ := ref1 xg (n := -s) (by omega) (by omega) (by omega)
      refine ⟨hs, by rw [hz, xl, a1], by rw [hm, xl, a2]; omega, ?_⟩
      rw [hd, hL4, xl, a3, drop1 (show (refG (-s) x).gn = false from xg)]
      have e1 : (refG (-s) x).rf = n - s := by show x.rf + -s = _; omega
      have e2 : (refG (-s) x).pl = x.pl := rfl
      rw [e1, e2]
      simp only [hpl]
    · right
      obtain ⟨a1, a2, a3⟩ := ref1_no xg (n := -s) (by omega)
      refine ⟨by omega, by rw [hz, xl, a1], ?_⟩
      rw [hd, hL4, xl, a3, drop1 xg, xr]
      simp only [hpl]
  have HWAY := hid way2
  have HO1 := hid O1
  have HO2 := hid O2
  have HO3 := hid O3
  have HO4 := hid O4
  have HP := hid hp
  have HM1 := hid m1
  have HR := hid (And.intro r1 (And.intro r2' r3))
  have HEQ := hid (And.intro hL3 (And.intro hE (And.intro hL4 (And.intro hm (And.intro hz hd)))))
  have HLL := hid (And.intro hl3 hl4)
  clear way way2 O1 O2 O3 O4 hp m1 r1 r2 r2' r3 hL3 hE hL4 hm hz hd hl3 hl4
  go_enter Try.func8, Try.ntmps8
  go_wp2_with fail
  refine (works_any I _).mono ?_
  rintro e w1 ⟨rfl, hb1⟩
  have HB1 := hid hb1
  clear hb1
  go_wp2_with fail
  refine (St.new I (Below.refl _ w1)).mono ?_
  rintro e w2 ⟨t, rfl, h2⟩
  have C1 := h2.make I Ok.nil (by omega) (by decide) (f := -1) (i := 0) (o := 1) (wf_small (by omega)) (wf_small (by omega)) (wf_small (by omega))
  rw [HM1.out.1, HM1.out.2.1, HM1.out.2.2] at C1
  have HC1 := hid C1
  clear h2 C1
  go_wp2_with fail
  refine HC1.out.mono ?_
  rintro e w3 ⟨rfl, h3⟩
  have C2 := h3.ref I HO1.out (by omega) (by decide) (id := 0) (n := n) (wf_small (by omega)) (wf_small (by omega))
  rw [HR.out.1, HR.out.2.1, HR.out.2.2] at C2
  have HC2 := hid C2
  clear h3 C2 HC1
  go_wp2_with fail
  refine HC2.out.mono ?_
  rintro e w4 ⟨rfl, h4⟩
  have C3 := h4.put I HO2.out (by omega) (by simp) (id := 0) (p := p) (a := 0) (wf_small (by omega)) HP.out (wf_small (by omega))
  rw [← HEQ.out.1, ← HEQ.out.2.1] at C3
  have HC3 := hid C3
  clear h4 C3 HC2
  go_wp2_with fail
  refine HC3.out.mono ?_
  rintro e w5 ⟨rfl, h5⟩
  have C4 := h5.ref I HO3.out (by omega) HLL.out.1 (id := 0) (n := -s) (wf_small (by omega)) (wf_small (by omega))
  rw [← HEQ.out.2.2.1, ← HEQ.out.2.2.2.1, ← HEQ.out.2.2.2.2.1] at C4
  have HC4 := hid C4
  clear h5 C4 HC3
  go_wp2_with fail
  refine HC4.out.mono ?_
  rintro e w6 ⟨rfl, h6⟩
  have C5 := h6.drop I HO4.out (by omega) HLL.out.2 (id := 0) (wf_small (by omega))
  rw [← HEQ.out.2.2.2.2.2] at C5
  have HC5 := hid C5
  clear h6 C5 HC4 HEQ HLL HR HM1 HO1 HO2 HO3 HO4
  go_upto_region 11 with fail
  have ways : ((E = 0 ∧ p = 0) ∨ (E = 0 ∧ decide (0 ≤ p) = true ∧ decide (p ≤ 2) = true ∧ (p != 0) = true) ∨ (E = 1 ∧ decide (0 ≤ p) = false) ∨ (E = 1 ∧ decide (0 ≤ p) = true ∧ decide (p ≤ 2) = false)) ∧
      ((decide (s ≤ n) = true ∧ z = 0 ∧ m = n - s ∧ decide (s < n) = true ∧ d = 4) ∨ (decide (s ≤ n) = true ∧ z = 0 ∧ m = n - s ∧ decide (s < n) = false ∧ d = if E = 0 ∧ p ≠ 0 then 4 else 0) ∨
        (decide (s ≤ n) = false ∧ z = 1 ∧ decide (0 < n) = true ∧ d = 4) ∨ (decide (s ≤ n) = false ∧ z = 1 ∧ decide (0 < n) = false ∧ d = if E = 0 ∧ p ≠ 0 then 4 else 0)) := by
    obtain ⟨g1, g2⟩ := HWAY.out
    simp only [decide_eq_true_eq, decide_eq_false_iff_not, bne_iff_ne, ne_eq] at *
    refine ⟨by omega, ?_⟩
    rcases g2 with ⟨a1, a2, a3, a4⟩ | ⟨a1, a2, a4⟩
    · by_cases h : 0 < n - s
      · left; exact ⟨a1, a2, a3, by omega, by rw [a4, if_pos (Or.inl h)]⟩
      · right; left; exact ⟨a1, a2, a3, by omega, by rw [a4]; simp only [h, false_or]⟩
    · by_cases h : 0 < n
      · right; right; left; exact ⟨by omega, a2, h, by rw [a4, if_pos (Or.inl h)]⟩
      · right; right; right; exact ⟨by omega, a2, h, by rw [a4]; simp only [h, false_or]⟩
  clear HWAY
  obtain ⟨wa, wb⟩ := ways
  rcases wa with ⟨rfl, rfl⟩ | ⟨rfl, p1, p2, p3⟩ | ⟨rfl, p1⟩ | ⟨rfl, p1, p2⟩
  all_goals
    rcases wb with ⟨b1, rfl, rfl, b2, rfl⟩ | ⟨b1, rfl, rfl, b2, hd⟩ | ⟨b1, rfl, b2, rfl⟩ | ⟨b1, rfl, b2, hd⟩
  all_goals
    try simp at hd
  all_goals
    try (have hp0 : p ≠ 0 := by simpa using p3
         simp [hp0] at hd
         clear hp0)
  all_goals
    try subst hd
  all_goals
    go_wp2_with fail
    refine HC5.out.mono ?_
    rintro e w7 ⟨rfl, h7⟩
    have HB := hid (HB1.out.trans ((h7.bel I).mono HB1.out.size))
    clear h7 HC5
    go_wp2_with fail
    go_ret
    exact ⟨rfl, HB.out⟩
theorem refs_walk (I : TbI Tb) (n s p : Int) (w : World) (hp : (Lit.int .i64 p).wf = true) :
    Calls Try.prog 8 #[.int .i64 n, .int .i64 s, .int .i64 p] w fun e w' => e = .returned (.bool true) ∧ Below w.heap.size w w' := by
  by_cases h : 0 ≤ n ∧ n ≤ 1000 ∧ 0 ≤ s ∧ s ≤ 1000
  · exact refs_in I n s p w h.1 h.2.1 h.2.2.1 h.2.2.2 hp
  · exact refs_out I n s p w (by simp only [decide_eq_true_eq, decide_eq_false_iff_not]; omega)
end
end Go.Proofs.Ytponlldgnlckfaa
