/-
  The contract of Make.
-/
import Derived.Test.YtponlldgnlckfaaP8
set_option maxRecDepth 100000
namespace Go.Proofs.Ytponlldgnlckfaa
open Go.RowKit

section
variable {w0 w w' : World} {t mp mf ms : Nat} {L : List Pg} {M : Int}
theorem Out.ofBut' {S : Nat → Prop} {b : Nat} {u v : World} (h : But b u.drew v) (hb : S b) : Out S u v := ⟨h.os, h.tape, h.output, Nat.le_of_eq h.size.symm, fun k _ hn => h.block k (fun e => hn (e ▸ hb))⟩
theorem make_fine {u : World} (h : PT w0 w t mp mf ms L) {x : Pg} (hr : RowAt u t 66 [.int .i64 ((L.length : Int) + 1), .map (some mp), .map (some mf), .map (some ms)])
    (hp : MapG 3 mkI u mp ((L ++ [x]).countP liveP) (GP (L ++ [x]))) (hf : MapG 24 mkK u mf ((L ++ [x]).countP fileP) (GF (L ++ [x]))) (hs : MapG 73 mkK u ms ((L ++ [x]).countP somP) (GS (L ++ [x]))) (hb : Below w0.heap.size w0 u) : PT w0 u t mp mf ms (L ++ [x]) := by
  refine ⟨?_, hp, hf, hs, h.ne, h.lo, hb⟩
  have : (((L ++ [x]).length : Nat) : Int) = (L.length : Int) + 1 := by simp
  rw [this]
  exact hr

set_option maxHeartbeats 4000000 in
theorem pmake (h : PT w0 w t mp mf ms L) (hL : L.length < 900000) {f i o : Int} (hf : (Lit.int .i64 f).wf = true) (hi : (Lit.int .i64 i).wf = true) :
    Calls Try.prog 30 #[.pointer (some ⟨t, 0, none⟩), .agg #[.int .i64 f, .int .i64 i], .int .i64 o] w fun e w' => e = .returned (.tuple #[.int .i64 (makeR L f i), .int .i64 (makeE L f i)]) ∧ PT w0 w' t mp mf ms (makeL L f i o) ∧ Out (Fo t mp mf ms) w w' := by
  obtain ⟨w1, hw1⟩ : ∃ w1, w1 = w.alloc (.cells #[.int .i64 f, .int .i64 i] 24) := ⟨_, rfl⟩
  have hb1 : Below w.heap.size w w1 := hw1 ▸ below_alloc _ _
  have h1 := h.later hb1
  have hkb : RowAt w1 w.heap.size 24 [.int .i64 f, .int .i64 i] := hw1 ▸ RowAt.new w #[.int .i64 f, .int .i64 i] 24
  have k0 : w1.cell? ⟨w.heap.size, 0, none⟩ = some (.int .i64 f) := by rw [hkb.cell]; rfl
  have k1 : w1.cell? ⟨w.heap.size, 1, none⟩ = some (.int .i64 i) := by rw [hkb.cell]; rfl
  have HLT := hid h.lt
  have HH0 := hid h
  have HOF := hid (pof h1 hf hi)
  have HW1 := hid hw1
  have HB1 := hid hb1
  have HKB := hid hkb
  have H1 := hid h1
  have HWF := hid (And.intro hf hi)
  cases hbz : busyL L f i with
  | true =>
    have HE : Hid (makeE L f i = 4) := by show _ = _; unfold makeE; rw [hbz]; rfl
    have HR : Hid (makeR L f i = -1) := by show _ = _; unfold makeR; rw [hbz]; rfl
    have HL : Hid (makeL L f i o = L) := by show _ = _; unfold makeL; rw [hbz]; rfl
    have hz0 : 0 ≤ ofL L f i := by simpa [busyL] using hbz
    obtain ⟨z, hz⟩ : ∃ z, z = ofL L f i := ⟨_, rfl⟩
    rw [← hz] at HOF hz0
    have d1 : (z != -1) = true := by simp; omega
    clear hbz hz hz0 h h1 hkb hb1 hw1 hf hi
    go_enter Try.func30, Try.ntmps30
    go_upto_region 1 with fail
    rw [← HW1.out]
    go_wp2_with fail
    refine HOF.out.mono ?_
    rintro e w2 ⟨rfl, hb2⟩
    have HB2 := hid hb2
    clear hb2
    go_wp2_with fail
    go_ret2
    exact ⟨by rw [HE.out, HR.out]; rfl, by rw [HL.out]; exact H1.out.later HB2.out, Out.ofBelow (bel_trans HB1.out HB2.out (Nat.le_refl _))⟩
  | false =>
    have HE : Hid (makeE L f i = 0) := by show _ = _; unfold makeE; rw [hbz]; rfl
    have HR : Hid (makeR L f i = L.length) := by show _ = _; unfold makeR; rw [hbz]; rfl
    have HL : Hid (makeL L f i o = L ++ [newPg L.length f i o]) := by show _ = _; unfold makeL; rw [hbz]; rfl
    have HZ := hid hbz
    have hz0 : ofL L f i = -1 := by
      rcases of_cases L f i with e | ⟨k, -, e, -⟩
      · exact e
      · simp [busyL, e] at hbz
    rw [hz0] at HOF
    have hlen : (0 : Int) ≤ (L.length : Int) ∧ (L.length : Int) < 900000 := by omega
    have HLL := hid hL
    obtain ⟨q, hq⟩ : ∃ q, q = (L.length : Int) := ⟨_, rfl⟩
    have HQ := hid hq
    rw [← hq] at hlen
    obtain ⟨l0, l1⟩ := hlen
    by_cases hf0 : 0 ≤ f
    · have d2 : decide (f ≥ 0) = true := by simpa using hf0
      have d3 : decide (0 ≤ f) = true := by simpa using hf0
      have HF0 := hid hf0
      clear hbz hz0 h h1 hkb hb1 hw1 hf hi hf0 hq hL
      go_enter Try.func30, Try.ntmps30
      go_upto_region 1 with fail
      rw [← HW1.out]
      go_wp2_with fail
      refine HOF.out.mono ?_
      rintro e w2 ⟨rfl, hb2⟩
      have HB2 := hid hb2
      have h2 := H1.out.later hb2
      have HH2 := hid h2
      have t0 : w2.cell? ⟨t, 0, none⟩ = some (.int .i64 q) := by rw [HQ.out]; exact h2.c0
      have tf := h2.h.frozen 0
      obtain ⟨w3, hw3⟩ : ∃ w3, w3 = w2.setCell ⟨t, 0, none⟩ (.int .i64 (q + 1)) := ⟨_, rfl⟩
      have hB3 : But t w2 w3 := hw3 ▸ But.setCell t 0 w2 _
      have hr3 : RowAt w3 t 66 [.int .i64 (q + 1), .map (some mp), .map (some mf), .map (some ms)] := hw3 ▸ h2.h.set 0 _
      have hp3 := h2.p.block (hB3.block mp (Ne.symm h2.nt.1))
      have hf3 := h2.f.block (hB3.block mf (Ne.symm h2.nt.2.1))
      have hs3 := h2.s.block (hB3.block ms (Ne.symm h2.nt.2.2))
      have hlt := HLT.out
      have hkb3 := (HKB.out.below hb2 HKB.out.lt).but hB3 (by omega)
      have hf3d : MapG 24 mkK w3.drew mf (L.countP fileP) (GF L) := hf3.block rfl
      have hcl := count_le fileP L
      have hcl2 := count_le liveP L
      have hll := HLL.out
      obtain ⟨w4, hrun4, hm4, hb4⟩ := hf3d.store keyed24 Try.underlying63 mkK_inj (x := (f, i)) (key24 HWF.out.1 HWF.out.2) (by omega) (.int .i64 q)
      have hp4 : MapG 3 mkI w4 mp (L.countP liveP) (GP L) := hp3.block (hb4.block mp h2.ne.1)
      have hs4 := hs3.block (w' := w4) (hb4.block ms (Ne.symm h2.ne.2.2))
      have hr4 : RowAt w4 t 66 [.int .i64 (q + 1), .map (some mp), .map (some mf), .map (some ms)] := RowAt.but (w := w3.drew) hr3 hb4 h2.nt.2.1
      have hkb4 : RowAt w4 w.heap.size 24 [.int .i64 f, .int .i64 i] := RowAt.but (w := w3.drew) hkb3 hb4 (by omega)
      have hp4d : MapG 3 mkI w4.drew mp (L.countP liveP) (GP L) := hp4.block rfl
      obtain ⟨w5, hrun5, hm5, hb5⟩ := hp4d.store keyed3 Try.underlying62 mkI_inj (x := q) (keyI (by rw [HQ.out]; exact WalkArith.wf_i64 (by omega))) (by omega) (pv (newPg L.length f i o))
      have e5 : newPg L.length f i o = ⟨f, i, 0, 0, o, 0, false, false⟩ := by unfold newPg; rw [if_pos HF0.out]
      have hrun4' : (Instr.mapUpdate 63 (.map (some mf)) (.agg #[.int .i64 f, .int .i64 i]) (.int .i64 q)).run Try.prog w3.drew = .ok () w4 := hrun4
      have hrun5' : (Instr.mapUpdate 62 (.map (some mp)) (.int .i64 q) (.agg #[.int .i64 f, .int .i64 i, .int .i64 0, .int .i64 0, .int .i64 o, .int .i64 0, .int .i64 0, .bool false, .bool false])).run Try.prog w4.drew = .ok () w5 := by rw [e5] at hrun5; exact hrun5
      have hout2 : Out (Fo t mp mf ms) w2 w5 := ((Out.but hB3 (Or.inl rfl)).trans (Out.ofBut' hb4 (Or.inr (Or.inr (Or.inl rfl))))).trans (Out.ofBut' hb5 (Or.inr (Or.inl rfl)))
      have hout : Out (Fo t mp mf ms) w w5 := (Out.ofBelow (bel_trans HB1.out hb2 (Nat.le_refl _))).trans hout2
      have HF : Hid (PT w0 w5 t mp mf ms (L ++ [newPg L.length f i o]) ∧ Out (Fo t mp mf ms) w w5) := by
        refine ⟨make_fine h2 ?_ ?_ ?_ ?_ (h2.bel_out hout2), hout⟩
        · rw [← HQ.out]
          exact RowAt.but (w := w4.drew) hr4 hb5 h2.nt.1
        · refine hm5.congr ?_ (fun id => ?_)
          · rw [HQ.out, GP_next, ← nP_make]; rfl
          · rw [← GP_make, HQ.out]
        · refine (hm4.block (hb5.block mf (Ne.symm h2.ne.1))).congr ?_ (fun y => ?_)
          · rw [GF_free HZ.out, ← nF_make HF0.out]; rfl
          · rw [← GF_make HZ.out HF0.out, HQ.out]
        · exact (hs4.block (hb5.block ms (Ne.symm h2.ne.2.1))).congr nS_make (fun y => GS_make y)
      have kk0 : w2.cell? ⟨w.heap.size, 0, none⟩ = some (.int .i64 f) := by rw [(HKB.out.below hb2 HKB.out.lt).cell]; rfl
      have k30 : w3.cell? ⟨w.heap.size, 0, none⟩ = some (.int .i64 f) := by rw [hkb3.cell]; rfl
      have k31 : w3.cell? ⟨w.heap.size, 1, none⟩ = some (.int .i64 i) := by rw [hkb3.cell]; rfl
      have k40 : w4.cell? ⟨w.heap.size, 0, none⟩ = some (.int .i64 f) := by rw [hkb4.cell]; rfl
      have k41 : w4.cell? ⟨w.heap.size, 1, none⟩ = some (.int .i64 i) := by rw [hkb4.cell]; rfl
      have t32 : w3.cell? ⟨t, 2, none⟩ = some (.map (some mf)) := by rw [hr3.cell]; rfl
      have t41 : w4.cell? ⟨t, 1, none⟩ = some (.map (some mp)) := by rw [hr4.cell]; rfl
      have HW3 := hid hw3
      clear hb2 h2 hw3 hB3 hr3 hp3 hf3 hs3 hlt hkb3 hf3d hcl hcl2 hll hm4 hb4 hp4 hs4 hr4 hkb4 hp4d hm5 hb5 e5 hout hout2 hrun4 hrun5
      go_upto_region 5 with fail
      rw [← HW3.out]
      go_wp2_with fail
      go_region
      go_wp2_with fail
      go_region
      go_wp2_with fail
      go_ret2
      exact ⟨by rw [HE.out, HR.out, ← HQ.out]; rfl, by rw [HL.out]; exact HF.out.1, HF.out.2⟩
    · have d2 : decide (f ≥ 0) = false := by simpa using hf0
      have d3 : decide (0 ≤ f) = false := by simpa using hf0
      have HF0 : Hid (¬ 0 ≤ f) := hf0
      clear hbz hz0 h h1 hkb hb1 hw1 hf hi hf0 hq hL
      go_enter Try.func30, Try.ntmps30
      go_upto_region 1 with fail
      rw [← HW1.out]
      go_wp2_with fail
      refine HOF.out.mono ?_
      rintro e w2 ⟨rfl, hb2⟩
      have HB2 := hid hb2
      have nf0 : ¬ 0 ≤ f := by have := HF0.out; omega
      have h2 := H1.out.later hb2
      have HH2 := hid h2
      have t0 : w2.cell? ⟨t, 0, none⟩ = some (.int .i64 q) := by rw [HQ.out]; exact h2.c0
      have tf := h2.h.frozen 0
      obtain ⟨w3, hw3⟩ : ∃ w3, w3 = w2.setCell ⟨t, 0, none⟩ (.int .i64 (q + 1)) := ⟨_, rfl⟩
      have hB3 : But t w2 w3 := hw3 ▸ But.setCell t 0 w2 _
      have hr3 : RowAt w3 t 66 [.int .i64 (q + 1), .map (some mp), .map (some mf), .map (some ms)] := hw3 ▸ h2.h.set 0 _
      have hp3 := h2.p.block (hB3.block mp (Ne.symm h2.nt.1))
      have hf3 := h2.f.block (hB3.block mf (Ne.symm h2.nt.2.1))
      have hs3 := h2.s.block (hB3.block ms (Ne.symm h2.nt.2.2))
      have hlt := HLT.out
      have hkb3 := (HKB.out.below hb2 HKB.out.lt).but hB3 (by omega)
      obtain ⟨w4, hw4⟩ : ∃ w4, w4 = (w3.setCell ⟨w.heap.size, 0, none⟩ (.int .i64 (-1))).setCell ⟨w.heap.size, 1, none⟩ (.int .i64 q) := ⟨_, rfl⟩
      have hb4 : But w.heap.size w3 w4 := hw4 ▸ (But.setCell _ _ _ _).trans (But.setCell _ _ _ _)
      have hkb4 : RowAt w4 w.heap.size 24 [.int .i64 (-1), .int .i64 q] := hw4 ▸ (hkb3.set 0 (.int .i64 (-1))).set 1 (.int .i64 q)
      have hp4 : MapG 3 mkI w4 mp (L.countP liveP) (GP L) := hp3.block (hb4.block mp (by omega))
      have hf4 := hf3.block (hb4.block mf (by omega))
      have hs4 := hs3.block (hb4.block ms (by omega))
      have hr4 : RowAt w4 t 66 [.int .i64 (q + 1), .map (some mp), .map (some mf), .map (some ms)] := hr3.but hb4 (by omega)
      have hp4d : MapG 3 mkI w4.drew mp (L.countP liveP) (GP L) := hp4.block rfl
      have hcl2 := count_le liveP L
      have hll := HLL.out
      obtain ⟨w5, hrun5, hm5, hb5⟩ := hp4d.store keyed3 Try.underlying62 mkI_inj (x := q) (keyI (by rw [HQ.out]; exact WalkArith.wf_i64 (by omega))) (by omega) (pv (newPg L.length f i o))
      have e5 : newPg L.length f i o = ⟨-1, q, 0, 0, o, 0, false, false⟩ := by unfold newPg; rw [if_neg nf0, HQ.out]
      have hrun5' : (Instr.mapUpdate 62 (.map (some mp)) (.int .i64 q) (.agg #[.int .i64 (-1), .int .i64 q, .int .i64 0, .int .i64 0, .int .i64 o, .int .i64 0, .int .i64 0, .bool false, .bool false])).run Try.prog w4.drew = .ok () w5 := by rw [e5] at hrun5; exact hrun5
      have hsz : w.heap.size ≤ w2.heap.size := by
        have e1 := HB1.out.size
        have e2 := hb2.size
        omega
      have hb4' : Out (Fo t mp mf ms) w w4 := by
        have e1 : Out (Fo t mp mf ms) w w3 := (Out.ofBelow (bel_trans HB1.out hb2 (Nat.le_refl _))).trans (Out.but hB3 (Or.inl rfl))
        exact ⟨hb4.os.trans e1.os, hb4.tape.trans e1.tape, hb4.output.trans e1.output, Nat.le_trans e1.size (Nat.le_of_eq hb4.size.symm), fun k hk hn => (hb4.block k (by omega)).trans (e1.block k hk hn)⟩
      have hout : Out (Fo t mp mf ms) w w5 := hb4'.trans (Out.ofBut' hb5 (Or.inr (Or.inl rfl)))
      have HF : Hid (PT w0 w5 t mp mf ms (L ++ [newPg L.length f i o]) ∧ Out (Fo t mp mf ms) w w5) := by
        refine ⟨make_fine h2 ?_ ?_ ?_ ?_ (HH0.out.bel_out hout), hout⟩
        · rw [← HQ.out]
          exact RowAt.but (w := w4.drew) hr4 hb5 h2.nt.1
        · refine hm5.congr ?_ (fun id => ?_)
          · rw [HQ.out, GP_next, ← nP_make]; rfl
          · rw [← GP_make, HQ.out]
        · exact (hf4.block (hb5.block mf (Ne.symm h2.ne.1))).congr (nF_make0 nf0) (fun y => GF_make0 HZ.out nf0 y)
        · exact (hs4.block (hb5.block ms (Ne.symm h2.ne.2.1))).congr nS_make (fun y => GS_make y)
      have kk0 : w2.cell? ⟨w.heap.size, 0, none⟩ = some (.int .i64 f) := by rw [(HKB.out.below hb2 HKB.out.lt).cell]; rfl
      have k30 : w3.cell? ⟨w.heap.size, 0, none⟩ = some (.int .i64 f) := by rw [hkb3.cell]; rfl
      have k31 : w3.cell? ⟨w.heap.size, 1, none⟩ = some (.int .i64 i) := by rw [hkb3.cell]; rfl
      have kf0 := hkb3.frozen 0
      have kf1 := hkb3.frozen 1
      have k40 : w4.cell? ⟨w.heap.size, 0, none⟩ = some (.int .i64 (-1)) := by rw [hkb4.cell]; rfl
      have k41 : w4.cell? ⟨w.heap.size, 1, none⟩ = some (.int .i64 q) := by rw [hkb4.cell]; rfl
      have t41 : w4.cell? ⟨t, 1, none⟩ = some (.map (some mp)) := by rw [hr4.cell]; rfl
      have HW3 := hid hw3
      have HW4 := hid hw4
      clear nf0 hb2 h2 hw3 hB3 hr3 hp3 hf3 hs3 hlt hkb3 hcl2 hll hw4 hb4 hb4' hp4 hf4 hs4 hr4 hkb4 hp4d hm5 hb5 e5 hout hrun5 hsz
      go_upto_region 5 with fail
      rw [← HW3.out]
      go_upto_region 8 with fail
      rw [← HW4.out]
      go_wp2_with fail
      go_region
      go_wp2_with fail
      go_ret2
      exact ⟨by rw [HE.out, HR.out, ← HQ.out]; rfl, by rw [HL.out]; exact HF.out.1, HF.out.2⟩
end
end Go.Proofs.Ytponlldgnlckfaa
