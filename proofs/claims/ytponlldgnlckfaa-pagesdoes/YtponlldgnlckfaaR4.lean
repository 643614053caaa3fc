/-
  The contracts of the document's Put and Refer.
-/
import Derived.Test.YtponlldgnlckfaaR3
namespace Go.Proofs.Ytponlldgnlckfaa
open Go.RowKit

theorem bad_way (p a : Int) : (badP p a = true → decide (p < 0) = true ∨ (decide (p < 0) = false ∧ decide (2 < p) = true) ∨ (decide (p < 0) = false ∧ decide (2 < p) = false ∧ decide (a < 0) = true) ∨ (decide (p < 0) = false ∧ decide (2 < p) = false ∧ decide (a < 0) = false ∧ (p == 0) = true ∧ (a != 0) = true)) ∧
    (badP p a = false → decide (p < 0) = false ∧ decide (2 < p) = false ∧ decide (a < 0) = false ∧ ((p == 0) = false ∨ ((p == 0) = true ∧ (a != 0) = false))) := by
  constructor
  · intro h
    simp only [badP, Bool.or_eq_true, Bool.and_eq_true, decide_eq_true_eq] at h
    simp only [decide_eq_true_eq, decide_eq_false_iff_not, beq_iff_eq, bne_iff_ne, ne_eq]
    omega
  · intro h
    have := (bad_iff p a).1 h
    simp only [decide_eq_false_iff_not, beq_eq_false_iff_ne, beq_iff_eq, ne_eq, bne_eq_false_iff_eq]
    omega
set_option maxRecDepth 100000 in
set_option maxHeartbeats 4000000 in
theorem rput (B r : Nat) (L : List Pg) (id p b : Int) (w : World) (h : RefIs B w r L) (hL : L.length < 1000000) :
    Calls Try.prog 14 #[.pointer (some ⟨r, 0, none⟩), .int .i64 id, .int .i64 p, .int .i64 b] w fun e w' => e = .returned (.int .i64 (putE L id p b)) ∧ RefIs B w' r (putL L id p b) ∧ Below B w w' ∧ Kp pob w w' := by
  have HH := hid (rhas B r L id w h)
  have HAt := hid (rat B r L p b w h hL)
  have H0 := hid h
  cases hh : has L id with
  | false =>
    rw [hh] at HH
    have he : putE L id p b = 2 := by unfold putE; rw [hh]; rfl
    have HE := hid he
    have HL : Hid (putL L id p b = L) := put_err (by rw [he]; decide)
    clear h hh he
    go_enter Try.func14, Try.ntmps14
    go_wp2_with fail
    refine HH.out.mono ?_
    rintro e w1 ⟨rfl, rfl⟩
    go_wp2_with fail
    go_ret
    exact ⟨by rw [HE.out]; rfl, by rw [HL.out]; exact H0.out, Below.refl _ _, Kp.refl _ _⟩
  | true =>
    rw [hh] at HH
    cases hb : badP p b with
    | true =>
      have he : putE L id p b = 1 := by unfold putE; rw [if_pos hh, if_pos hb]
      have HE := hid he
      have HL : Hid (putL L id p b = L) := put_err (by rw [he]; decide)
      have hw := (bad_way p b).1 hb
      clear h hh he hb
      rcases hw with q1 | ⟨q1, q2⟩ | ⟨q1, q2, q3⟩ | ⟨q1, q2, q3, q4, q5⟩
      all_goals
        go_enter Try.func14, Try.ntmps14
        go_wp2_with fail
        refine HH.out.mono ?_
        rintro e w1 ⟨rfl, rfl⟩
        go_wp2_with fail
        go_ret
        exact ⟨by rw [HE.out]; rfl, by rw [HL.out]; exact H0.out, Below.refl _ _, Kp.refl _ _⟩
    | false =>
      have hx : putE L id p b = if 0 ≤ atL L p b ∧ atL L p b ≠ id then 4 else 0 := by unfold putE; rw [if_pos hh, if_neg (by rw [hb]; decide)]
      obtain ⟨q1, q2, q3, q4⟩ := (bad_way p b).2 hb
      obtain ⟨t, ht⟩ : ∃ t, t = atL L p b := ⟨_, rfl⟩
      rw [← ht] at HAt hx
      by_cases hc : 0 ≤ t ∧ t ≠ id
      · have he : putE L id p b = 4 := by rw [hx, if_pos hc]
        have HE := hid he
        have HL : Hid (putL L id p b = L) := put_err (by rw [he]; decide)
        have d1 : decide (0 ≤ t) = true := decide_eq_true hc.1
        have d2 : (t != id) = true := by simpa using hc.2
        clear h hh he hb hx ht hc
        rcases q4 with q4 | ⟨q4, q5⟩
        all_goals
          go_enter Try.func14, Try.ntmps14
          go_wp2_with fail
          refine HH.out.mono ?_
          rintro e w1 ⟨rfl, rfl⟩
          go_wp2_with fail
          refine HAt.out.mono ?_
          rintro e w2 ⟨rfl, rfl⟩
          go_wp2_with fail
          go_ret
          exact ⟨by rw [HE.out]; rfl, by rw [HL.out]; exact H0.out, Below.refl _ _, Kp.refl _ _⟩
      · have he : putE L id p b = 0 := by rw [hx, if_neg hc]
        have HE := hid he
        have HL : Hid (putL L id p b = setL L id (putG p b)) := by show _ = _; unfold putL; rw [if_pos he]
        obtain ⟨k, rfl, hk, hg⟩ := has_nat' hh
        obtain ⟨g, cap, hA⟩ := h.at hk
        have hcd := hA.head
        have f2 := hA.frozen (k * 10 + 2)
        have c2 := (hA.cell hk 2 (by omega)).trans (nc2 _).2.2.1
        have hT := hA.turn { pg L k with pl := p } (v := .int .i64 p) hk (j := 2) (by omega) rfl
        have hk2 : k < (L.set k { pg L k with pl := p }).length := by rw [List.length_set]; exact hk
        have e2 : pg (L.set k { pg L k with pl := p }) k = { pg L k with pl := p } := by rw [pg_set hk, if_pos rfl]
        have hhd := hT.1.head
        have f3 := hT.1.frozen (k * 10 + 3)
        have c3 := (hT.1.cell hk2 3 (by omega)).trans (nc2 _).2.2.2.1
        have hU := hT.1.turn (putG p b (pg L k)) (v := .int .i64 b) hk2 (j := 3) (by omega) (by rw [e2]; rfl)
        rw [e2] at c3
        rw [List.length_set] at hhd
        have e3 : (L.set k { pg L k with pl := p }).set k (putG p b (pg L k)) = L.set k (putG p b (pg L k)) := by rw [List.set_set]
        rw [e3] at hU
        have HU : Hid (RefIs B ((w.setCell ⟨g, k * 10 + 2, none⟩ (.int .i64 p)).setCell ⟨g, k * 10 + 3, none⟩ (.int .i64 b)) r (L.set k (putG p b (pg L k))) ∧ Below B w ((w.setCell ⟨g, k * 10 + 2, none⟩ (.int .i64 p)).setCell ⟨g, k * 10 + 3, none⟩ (.int .i64 b)) ∧ Kp pob w ((w.setCell ⟨g, k * 10 + 2, none⟩ (.int .i64 p)).setCell ⟨g, k * 10 + 3, none⟩ (.int .i64 b))) :=
          ⟨hU.1.is, hT.2.1.trans hU.2.1, hT.2.2.trans hU.2.2⟩
        have d3 : decide ((k : Int) < (L.length : Int)) = true := by simp; omega
        have hway : decide (0 ≤ t) = false ∨ (decide (0 ≤ t) = true ∧ (t != (k : Int)) = false) := by
          simp only [decide_eq_false_iff_not, decide_eq_true_eq, bne_eq_false_iff_eq]
          omega
        obtain ⟨y1, hy1⟩ : ∃ y, y = (pg L k).pl := ⟨_, rfl⟩
        obtain ⟨y2, hy2⟩ : ∃ y, y = (pg L k).at' := ⟨_, rfl⟩
        rw [← hy1] at c2
        have c3' : (w.setCell ⟨g, k * 10 + 2, none⟩ (.int .i64 p)).cell? ⟨g, k * 10 + 3, none⟩ = some (.int .i64 y2) := by rw [c3, hy2]
        clear h hh he hb hx ht hc hg hA hT hk2 e2 hU e3 hy1 hy2 c3
        rcases hway with d1 | ⟨d1, d2⟩ <;> rcases q4 with q4 | ⟨q4, q5⟩
        all_goals
          go_enter Try.func14, Try.ntmps14
          go_wp2_with fail
          refine HH.out.mono ?_
          rintro e w1 ⟨rfl, rfl⟩
          go_wp2_with fail
          refine HAt.out.mono ?_
          rintro e w2 ⟨rfl, rfl⟩
          go_wp2_with fail
          go_ret
          exact ⟨by rw [HE.out]; rfl, by rw [HL.out]; exact HU.out.1, HU.out.2⟩

set_option maxRecDepth 100000 in
set_option maxHeartbeats 4000000 in
theorem rref (B r : Nat) (M : Int) (L : List Pg) (id n : Int) (w : World) (h : RefIs B w r L) (hM : ∀ i, i < L.length → 0 ≤ (pg L i).rf ∧ (pg L i).rf ≤ M) (hM2 : M ≤ 1000000000) :
    Calls Try.prog 15 #[.pointer (some ⟨r, 0, none⟩), .int .i64 id, .int .i64 n] w fun e w' => e = .returned (.tuple #[.int .i64 (refN L id n), .int .i64 (refE L id n)]) ∧ RefIs B w' r (refL L id n) ∧ Below B w w' ∧ Kp pob w w' := by
  have HH := hid (rhas B r L id w h)
  have H0 := hid h
  cases hh : has L id with
  | false =>
    rw [hh] at HH
    have he : refE L id n = 2 := by unfold refE; rw [hh]; rfl
    have HE := hid he
    have HN : Hid (refN L id n = 0) := by show _ = _; unfold refN; rw [he]; rfl
    have HL : Hid (refL L id n = L) := ref_err (by rw [he]; decide)
    clear h hh he hM
    go_enter Try.func15, Try.ntmps15
    go_wp2_with fail
    refine HH.out.mono ?_
    rintro e w1 ⟨rfl, rfl⟩
    go_wp2_with fail
    go_ret2
    exact ⟨by rw [HE.out, HN.out]; rfl, by rw [HL.out]; exact H0.out, Below.refl _ _, Kp.refl _ _⟩
  | true =>
    rw [hh] at HH
    obtain ⟨k, rfl, hk, hg⟩ := has_nat' hh
    have hx : refE L k n = if n < -1000 ∨ 1000 < n ∨ (pg L k).rf + n < 0 then 1 else 0 := by unfold refE; rw [if_pos hh]; rfl
    obtain ⟨g, cap, hA⟩ := h.at hk
    have hcd := hA.head
    have f5 := hA.frozen (k * 10 + 5)
    have c5 := (hA.cell hk 5 (by omega)).trans (nc2 _).2.2.2.2.2.1
    have hm := hM k hk
    have d3 : decide ((k : Int) < (L.length : Int)) = true := by simp; omega
    by_cases hc : n < -1000 ∨ 1000 < n ∨ (pg L k).rf + n < 0
    · have he : refE L k n = 1 := by rw [hx, if_pos hc]
      have HE := hid he
      have HN : Hid (refN L k n = 0) := by show _ = _; unfold refN; rw [he]; rfl
      have HL : Hid (refL L k n = L) := ref_err (by rw [he]; decide)
      have hw : decide (n < -1000) = true ∨ (decide (n < -1000) = false ∧ decide (1000 < n) = true) ∨ (decide (n < -1000) = false ∧ decide (1000 < n) = false ∧ decide ((pg L k).rf + n < 0) = true) := by
        simp only [decide_eq_true_eq, decide_eq_false_iff_not]
        omega
      obtain ⟨y, hy⟩ : ∃ y, y = (pg L k).rf := ⟨_, rfl⟩
      rw [← hy] at c5 hw hm
      clear h hh he hM hx hc hg hA hy
      rcases hw with q1 | ⟨q1, q2⟩ | ⟨q1, q2, q3⟩
      · go_enter Try.func15, Try.ntmps15
        go_wp2_with fail
        refine HH.out.mono ?_
        rintro e w1 ⟨rfl, rfl⟩
        go_wp2_with fail
        go_ret2
        exact ⟨by rw [HE.out, HN.out]; rfl, by rw [HL.out]; exact H0.out, Below.refl _ _, Kp.refl _ _⟩
      · go_enter Try.func15, Try.ntmps15
        go_wp2_with fail
        refine HH.out.mono ?_
        rintro e w1 ⟨rfl, rfl⟩
        go_wp2_with fail
        go_ret2
        exact ⟨by rw [HE.out, HN.out]; rfl, by rw [HL.out]; exact H0.out, Below.refl _ _, Kp.refl _ _⟩
      · have b1 : -1000 ≤ n := by simp at q1; exact q1
        have b2 : n ≤ 1000 := by simp at q2; exact q2
        go_enter Try.func15, Try.ntmps15
        go_wp2_with fail
        refine HH.out.mono ?_
        rintro e w1 ⟨rfl, rfl⟩
        go_wp2_with fail
        go_ret2
        exact ⟨by rw [HE.out, HN.out]; rfl, by rw [HL.out]; exact H0.out, Below.refl _ _, Kp.refl _ _⟩
    · have he : refE L k n = 0 := by rw [hx, if_neg hc]
      have HE := hid he
      have HN : Hid (refN L k n = (pg L k).rf + n) := by show _ = _; unfold refN; rw [if_pos he]; rfl
      have HL : Hid (refL L k n = setL L k (refG n)) := by show _ = _; unfold refL; rw [if_pos he]
      have b1 : -1000 ≤ n := by omega
      have b2 : n ≤ 1000 := by omega
      have q1 : decide (n < -1000) = false := decide_eq_false (by omega)
      have q2 : decide (1000 < n) = false := decide_eq_false (by omega)
      have q3 : decide ((pg L k).rf + n < 0) = false := decide_eq_false (by omega)
      have hT := hA.turn (refG n (pg L k)) (v := .int .i64 ((pg L k).rf + n)) hk (j := 5) (by omega) rfl
      have hk2 : k < (L.set k (refG n (pg L k))).length := by rw [List.length_set]; exact hk
      have e2 : pg (L.set k (refG n (pg L k))) k = refG n (pg L k) := by rw [pg_set hk, if_pos rfl]
      have hhd := hT.1.head
      have c5' := (hT.1.cell hk2 5 (by omega)).trans (nc2 _).2.2.2.2.2.1
      rw [e2] at c5'
      rw [List.length_set] at hhd
      have c6 : (w.setCell ⟨g, k * 10 + 5, none⟩ (.int .i64 ((pg L k).rf + n))).cell? ⟨g, k * 10 + 5, none⟩ = some (.int .i64 ((pg L k).rf + n)) := c5'
      have HT := hid hT
      obtain ⟨y, hy⟩ : ∃ y, y = (pg L k).rf := ⟨_, rfl⟩
      rw [← hy] at c5 c6 q3 hm hhd
      have HY := hid hy
      have HT' : Hid (RefIs B (w.setCell ⟨g, k * 10 + 5, none⟩ (.int .i64 (y + n))) r (setL L k (refG n)) ∧ Below B w (w.setCell ⟨g, k * 10 + 5, none⟩ (.int .i64 (y + n))) ∧ Kp pob w (w.setCell ⟨g, k * 10 + 5, none⟩ (.int .i64 (y + n)))) := by
        rw [hy]; exact ⟨hT.1.is, hT.2⟩
      clear h hh he hM hx hc hg hA hT hk2 e2 c5' hy HT
      go_enter Try.func15, Try.ntmps15
      go_wp2_with fail
      refine HH.out.mono ?_
      rintro e w1 ⟨rfl, rfl⟩
      go_wp2_with fail
      go_region
      go_wp2_with fail
      go_ret2
      exact ⟨by rw [HE.out, HN.out, ← HY.out]; rfl, by rw [HL.out]; exact HT'.out.1.drewN 1, below_drawn HT'.out.2.1 1, HT'.out.2.2.drewN 1⟩
end Go.Proofs.Ytponlldgnlckfaa
