/-
  The contracts of Drop and Put.
-/
import Derived.Test.YtponlldgnlckfaaP6
set_option maxRecDepth 100000
namespace Go.Proofs.Ytponlldgnlckfaa
open Go.RowKit

section
variable {w0 w w' : World} {t mp mf ms : Nat} {L : List Pg} {M : Int}
theorem out_but {S : Nat → Prop} {p : Nat} (h : But p w w') (hp : S p) : Out S w w' := Out.but h hp
theorem wf_at {L : List Pg} {M : Int} (hO : Ok M L) {k : Nat} (hk : k < L.length) (hp : (Lit.int .i64 (pg L k).at').wf = true) : (Lit.int .i64 (pg L k).pl).wf = true ∧ (Lit.int .i64 (pg L k).at').wf = true :=
  ⟨WalkArith.wf_i64 (by have := hO.place k hk; omega), hp⟩
/-- Each page's numbers are ints. -/
def Wf (L : List Pg) : Prop := ∀ k, k < L.length → (Lit.int .i64 (pg L k).kf).wf = true ∧ (Lit.int .i64 (pg L k).ki).wf = true ∧ (Lit.int .i64 (pg L k).at').wf = true

set_option maxHeartbeats 4000000 in
theorem pdrop (h : PT w0 w t mp mf ms L) (hO : Ok M L) (hW : Wf L) {id : Int} (hi : (Lit.int .i64 id).wf = true) :
    Calls Try.prog 32 #[.pointer (some ⟨t, 0, none⟩), .int .i64 id] w fun e w' => e = .returned (.int .i64 (dropE L id)) ∧ PT w0 w' t mp mf ms (dropL L id) ∧ Out (Fo t mp mf ms) w w' := by
  cases hh : has L id with
  | false =>
    have HC := hid (get_no h hi hh)
    have he : dropE L id = 2 := by unfold dropE; rw [hh]; rfl
    have HE := hid he
    have HL : Hid (dropL L id = L) := drop_err (by rw [he]; decide)
    have H0 := hid h
    clear h hh he hO hi hW
    go_enter Try.func32, Try.ntmps32
    go_wp2_with fail
    refine HC.out.mono ?_
    rintro e w1 ⟨rfl, hb1⟩
    have HB1 := hid hb1
    clear hb1
    go_wp2_with fail
    go_ret
    have hl := bel_trans HB1.out (below_alloc w1 (.cells #[.int .i64 0, .int .i64 0, .int .i64 0, .int .i64 0, .int .i64 0, .int .i64 0, .int .i64 0, .bool false, .bool false] 45)) (Nat.le_refl _)
    exact ⟨by rw [HE.out]; rfl, by rw [HL.out]; exact H0.out.later hl, Out.ofBelow hl⟩
  | true =>
    obtain ⟨k, rfl, hk, hgn⟩ := has_nat' hh
    have hx : dropE L k = if 0 < (pg L k).rf ∨ (pg L k).pl ≠ 0 then 4 else 0 := by unfold dropE; rw [if_pos hh]; rfl
    obtain ⟨y, hy⟩ : ∃ y, y = pg L k := ⟨_, rfl⟩
    have HC := hid (get_yes h hi hk hgn hy)
    rw [← hy] at hx
    by_cases hbad : 0 < y.rf ∨ y.pl ≠ 0
    · have he : dropE L k = 4 := by rw [hx, if_pos hbad]
      have HE := hid he
      have HL : Hid (dropL L k = L) := drop_err (by rw [he]; decide)
      have H0 := hid h
      have hw : decide (0 < y.rf) = true ∨ (decide (0 < y.rf) = false ∧ (y.pl != 0) = true) := by
        simp only [decide_eq_true_eq, decide_eq_false_iff_not, bne_iff_ne, ne_eq]
        omega
      clear h hh he hO hi hx hy hgn hbad hW
      rcases hw with d1 | ⟨d1, d2⟩
      all_goals
        go_enter Try.func32, Try.ntmps32
        go_wp2_with fail
        refine HC.out.mono ?_
        rintro e w1 ⟨rfl, hb1⟩
        have HB1 := hid hb1
        obtain ⟨w2, hw2⟩ : ∃ w2, w2 = w1.alloc (.cells #[.int .i64 y.kf, .int .i64 y.ki, .int .i64 y.pl, .int .i64 y.at', .int .i64 y.ow, .int .i64 y.rf, .int .i64 0, .bool false, .bool y.dr] 45) := ⟨_, rfl⟩
        have HW2 := hid hw2
        have hnr : RowAt w2 w1.heap.size 45 (pc y).toList := by rw [hw2]; exact nine_row y
        have c5 : w2.cell? ⟨w1.heap.size, 5, none⟩ = some (.int .i64 y.rf) := by rw [hnr.cell]; rfl
        have c2 : w2.cell? ⟨w1.heap.size, 2, none⟩ = some (.int .i64 y.pl) := by rw [hnr.cell]; rfl
        have HLB : Hid (Below w.heap.size w w2) := hw2 ▸ bel_trans hb1 (below_alloc _ _) (Nat.le_refl _)
        clear hb1 hw2 hnr
        go_upto_region 2 with fail
        rw [← HW2.out]
        go_wp2_with fail
        go_ret
        exact ⟨by rw [HE.out]; rfl, by rw [HL.out]; exact H0.out.later HLB.out, Out.ofBelow HLB.out⟩
    · have he : dropE L k = 0 := by rw [hx, if_neg hbad]
      have HE := hid he
      have HL : Hid (dropL L k = L.set k (dropG (pg L k))) := by show _ = _; unfold dropL; rw [if_pos he]; rfl
      have H0 := hid h
      have HY := hid hy
      have HK := hid hk
      have HGN := hid hgn
      have HOK := hid hO
      have HWF := hid hi
      have HWY := hid (hW k hk)
      have hr0 : y.pl = 0 := by omega
      have HPL : Hid ((pg L k).pl = 0) := by show _ = _; rw [← hy]; exact hr0
      have d1 : decide (0 < y.rf) = false := by simp; omega
      have d2 : (y.pl != 0) = false := by simp; omega
      clear h hh he hO hi hx hy hgn hbad hr0 hk hW
      go_enter Try.func32, Try.ntmps32
      go_wp2_with fail
      refine HC.out.mono ?_
      rintro e w1 ⟨rfl, hb1⟩
      have HB1 := hid hb1
      obtain ⟨w2, hw2⟩ : ∃ w2, w2 = w1.alloc (.cells #[.int .i64 y.kf, .int .i64 y.ki, .int .i64 y.pl, .int .i64 y.at', .int .i64 y.ow, .int .i64 y.rf, .int .i64 0, .bool false, .bool y.dr] 45) := ⟨_, rfl⟩
      have HW2 := hid hw2
      have hnr : RowAt w2 w1.heap.size 45 (pc y).toList := by rw [hw2]; exact nine_row y
      have c5 : w2.cell? ⟨w1.heap.size, 5, none⟩ = some (.int .i64 y.rf) := by rw [hnr.cell]; rfl
      have c2 : w2.cell? ⟨w1.heap.size, 2, none⟩ = some (.int .i64 y.pl) := by rw [hnr.cell]; rfl
      have c0 : w2.cell? ⟨w1.heap.size, 0, none⟩ = some (.int .i64 y.kf) := by rw [hnr.cell]; rfl
      have c1 : w2.cell? ⟨w1.heap.size, 1, none⟩ = some (.int .i64 y.ki) := by rw [hnr.cell]; rfl
      have hlb : Below w.heap.size w w2 := hw2 ▸ bel_trans hb1 (below_alloc _ _) (Nat.le_refl _)
      have HLB := hid hlb
      have h2 := H0.out.later hlb
      have H2 := hid h2
      have t2 := h2.c2
      have h2d := h2.drewN 1
      have hwy := HWY.out
      rw [← HY.out] at hwy
      obtain ⟨w3, hrun, hm3, hb3⟩ := h2d.f.drop keyed24 Try.underlying63 mkK_inj (x := (y.kf, y.ki)) (key24 hwy.1 hwy.2.1) 0
      have hb3' : But mf w2 w3 := ⟨hb3.os, hb3.tape, hb3.output, hb3.size, hb3.block⟩
      have hp3 : MapG 3 mkI w3 mp (L.countP liveP) (GP L) := h2.p.block (hb3'.block mp h2.ne.1)
      obtain ⟨w4, hrun4, hm4, hb4⟩ := hp3.drop keyed3 Try.underlying62 mkI_inj (x := (k : Int)) (keyI HWF.out) 0
      have hr3 := h2.h.but hb3' h2.nt.2.1
      have t1 : w3.cell? ⟨t, 1, none⟩ = some (.map (some mp)) := by rw [hr3.cell]; rfl
      have hrun' : (Builtin.delete_ #[63, 24] 0 #[.map (some mf), .agg #[.int .i64 y.kf, .int .i64 y.ki]]).run Try.prog w2.drew = .ok (.tuple #[]) w3 := hrun
      have hrun4' : (Builtin.delete_ #[62, 3] 0 #[.map (some mp), .int .i64 k]).run Try.prog w3 = .ok (.tuple #[]) w4 := hrun4
      have hP4 : MapG 3 mkI w4 mp ((L.set k (dropG (pg L k))).countP liveP) (GP (L.set k (dropG (pg L k)))) := by
        refine hm4.congr ?_ (fun id => (GP_drop HK.out id).symm)
        rw [GP_some, (has_nat L k).2 ⟨HK.out, HGN.out⟩, nP_drop HK.out HGN.out]
        rfl
      have hF4 : MapG 24 mkK w4 mf ((L.set k (dropG (pg L k))).countP fileP) (GF (L.set k (dropG (pg L k)))) := by
        refine (hm3.block (hb4.block mf (Ne.symm h2.ne.1))).congr ?_ (fun x => ?_)
        · rw [HY.out]; exact nF_drop HOK.out HK.out HGN.out
        · rw [GF_drop HOK.out HK.out HGN.out, HY.out]
      have hS4 : MapG 73 mkK w4 ms ((L.set k (dropG (pg L k))).countP somP) (GS (L.set k (dropG (pg L k)))) := by
        refine ((h2.s.block (hb3'.block ms (Ne.symm h2.ne.2.2))).block (hb4.block ms (Ne.symm h2.ne.2.1))).congr ?_ (fun x => ?_)
        · rw [nS_drop HK.out HPL.out]
        · rw [GS_drop HK.out HPL.out]
      have hout : Out (Fo t mp mf ms) w w4 := ((Out.ofBelow hlb).trans (Out.but hb3' (Or.inr (Or.inr (Or.inl rfl))))).trans (Out.but hb4 (Or.inr (Or.inl rfl)))
      have HPT : Hid (PT w0 w4 t mp mf ms (L.set k (dropG (pg L k))) ∧ Out (Fo t mp mf ms) w w4) := by
        refine ⟨⟨?_, hP4, hF4, hS4, h2.ne, h2.lo, H0.out.bel_out hout⟩, hout⟩
        rw [List.length_set]
        exact hr3.but hb4 h2.nt.1
      clear hb1 hw2 hnr hlb h2 h2d hwy hm3 hb3 hb3' hp3 hm4 hb4 hr3 hrun hrun4 hP4 hF4 hS4 hout
      go_upto_region 2 with fail
      rw [← HW2.out]
      go_wp2_with fail
      go_region
      go_wp2
      go_ret
      exact ⟨by rw [HE.out]; rfl, by rw [HL.out]; exact HPT.out.1, HPT.out.2⟩
end
end Go.Proofs.Ytponlldgnlckfaa
