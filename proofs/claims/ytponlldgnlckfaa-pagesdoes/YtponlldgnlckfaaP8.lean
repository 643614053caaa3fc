/-
  The contract of Put.
-/
import Derived.Test.YtponlldgnlckfaaP7
set_option maxRecDepth 100000
namespace Go.Proofs.Ytponlldgnlckfaa
open Go.RowKit

section
variable {w0 w w' : World} {t mp mf ms : Nat} {L : List Pg} {M : Int}
theorem put_end {u u' w5 : World} {k : Nat} {p a : Int} (h : PT w0 u t mp mf ms L) (hk : k < L.length) (hg : (pg L k).gn = false) (he : putE L k p a = 0)
    (hs : MapG 73 mkK u' ms ((L.set k (putG p a (pg L k))).countP somP) (GS (L.set k (putG p a (pg L k))))) (ho : Apart ms u u')
    (hm : MapG 3 mkI w5 mp (L.countP liveP) (GP (turnL L k (putG p a)))) (ha : Apart mp u' w5) : PT w0 w5 t mp mf ms (putL L k p a) ∧ Out (Fo t mp mf ms) u w5 := by
  have e : putL L k p a = L.set k (putG p a (pg L k)) := by unfold putL; rw [if_pos he]; rfl
  have e2 : turnL L k (putG p a) = L.set k (putG p a (pg L k)) := by unfold turnL; rw [if_pos ((has_nat L k).2 ⟨hk, hg⟩)]; rfl
  rw [e]
  rw [e2] at hm
  have hout : Out (Fo t mp mf ms) u w5 := (out_apart ho (Or.inr (Or.inr (Or.inr rfl)))).trans (out_apart ha (Or.inr (Or.inl rfl)))
  refine ⟨⟨?_, ?_, ?_, hs.block (ha.block ms hs.lt (Ne.symm h.ne.2.1)), h.ne, h.lo, h.bel_out hout⟩, hout⟩
  · rw [List.length_set]
    exact (h.h.apart ho h.nt.2.2).apart ha h.nt.1
  · rw [nP_set hk (putG p a (pg L k)) rfl]
    exact hm
  · have h1 := h.f.block (ho.block mf h.lt.2.2.1 h.ne.2.2)
    refine (h1.block (ha.block mf h1.lt (Ne.symm h.ne.1))).congr (nF_set hk (putG p a (pg L k)) rfl rfl).symm (fun x => (GF_set hk (putG p a (pg L k)) rfl rfl rfl x).symm)

/-- The box of a place, the box of where. -/
theorem boxes (w : World) (p a : Int) : RowAt ((w.alloc (.cells #[.int .i64 p] 25)).alloc (.cells #[.int .i64 a] 3)) w.heap.size 25 [.int .i64 p] ∧ RowAt ((w.alloc (.cells #[.int .i64 p] 25)).alloc (.cells #[.int .i64 a] 3)) (w.heap.size + 1) 3 [.int .i64 a] := by
  refine ⟨(RowAt.new w #[.int .i64 p] 25).alloc _, ?_⟩
  have := RowAt.new (w.alloc (.cells #[.int .i64 p] 25)) #[.int .i64 a] 3
  rw [World.size_alloc] at this
  exact this

theorem put_change {u : World} {n : Nat} {v0 v2 v3 : Value} {k : Nat} {p a : Int} {b1 b2 : Nat} (hq : QT u t mp n v0 v2 v3 L) (hn : n < 1000000) (hi : (Lit.int .i64 (k : Int)).wf = true) (hge : getE L k = 0) (h1 : RowAt u b1 25 [.int .i64 p]) (h2 : RowAt u b2 3 [.int .i64 a]) :
    Calls Try.prog 40 #[.pointer (some ⟨t, 0, none⟩), .int .i64 k, .func (.func 41) #[] #[.pointer (some ⟨b1, 0, none⟩), .pointer (some ⟨b2, 0, none⟩)]] u fun e w' => e = .returned (.int .i64 0) ∧ MapG 3 mkI w' mp n (GP (turnL L k (putG p a))) ∧ Apart mp u w' := by
  have := pchange hq hn hi (putG p a) (fun _ => rfl) 41 [.pointer (some ⟨b1, 0, none⟩), .pointer (some ⟨b2, 0, none⟩)] (Or.inl ⟨rfl, _, _, rfl⟩)
    (fun _ W b hW _ hr => tput p a b1 b2 W b _ hr (by rw [(h1.below hW h1.lt).cell]; rfl) (by rw [(h2.below hW h2.lt).cell]; rfl))
  rwa [hge] at this

set_option maxHeartbeats 4000000 in
theorem pput (h : PT w0 w t mp mf ms L) (hO : Ok M L) (hW : Wf L) (hL : L.length < 900000) {id p a : Int} (hi : (Lit.int .i64 id).wf = true) (hp : (Lit.int .i64 p).wf = true) (ha : (Lit.int .i64 a).wf = true) :
    Calls Try.prog 29 #[.pointer (some ⟨t, 0, none⟩), .int .i64 id, .int .i64 p, .int .i64 a] w fun e w' => e = .returned (.int .i64 (putE L id p a)) ∧ PT w0 w' t mp mf ms (putL L id p a) ∧ Out (Fo t mp mf ms) w w' := by
  obtain ⟨hx1, hx2⟩ := boxes w p a
  obtain ⟨wa, hwa⟩ : ∃ wa, wa = (w.alloc (.cells #[.int .i64 p] 25)).alloc (.cells #[.int .i64 a] 3) := ⟨_, rfl⟩
  have hb : Below w.heap.size w wa := hwa ▸ bel2 _ _ _
  have hsz : wa.heap.size = w.heap.size + 2 := by rw [hwa]; simp
  rw [← hwa] at hx1 hx2
  have h1 := h.later hb
  have HWA := hid hwa
  have HX1 := hid hx1
  have HX2 := hid hx2
  have HB := hid hb
  have HSZ := hid hsz
  clear hwa
  cases hh : has L id with
  | false =>
    have HC := hid (get_no h1 hi hh)
    have he : putE L id p a = 2 := by unfold putE; rw [hh]; rfl
    have HE := hid he
    have HL : Hid (putL L id p a = L) := put_err (by rw [he]; decide)
    have H1 := hid h1
    clear h hh he h1 hO hb hi hp ha hW hx1 hx2 hsz
    go_enter Try.func29, Try.ntmps29
    go_upto_region 1 with fail
    rw [← HWA.out]
    go_wp2_with fail
    refine HC.out.mono ?_
    rintro e w1 ⟨rfl, hb1⟩
    have HB1 := hid hb1
    clear hb1
    go_wp2_with fail
    go_ret
    have hl := bel_trans HB1.out (below_alloc w1 (.cells #[.int .i64 0, .int .i64 0, .int .i64 0, .int .i64 0, .int .i64 0, .int .i64 0, .int .i64 0, .bool false, .bool false] 45)) (Nat.le_refl _)
    exact ⟨by rw [HE.out]; rfl, by rw [HL.out]; exact H1.out.later hl, Out.ofBelow (bel_trans HB.out hl (Nat.le_refl _))⟩
  | true =>
    obtain ⟨k, rfl, hk, hgn⟩ := has_nat' hh
    obtain ⟨y, hy⟩ : ∃ y, y = pg L k := ⟨_, rfl⟩
    have HC := hid (get_yes h1 hi hk hgn hy)
    have HSP := hid (pspot p a)
    have HAT : Hid (∀ W, PT w0 W t mp mf ms L → Calls Try.prog 23 #[.pointer (some ⟨t, 0, none⟩), .int .i64 p, .int .i64 a] W fun e w' => e = .returned (.int .i64 (atL L p a)) ∧ w' = W) := fun W hW => patt hW hp ha
    have H1 := hid h1
    cases hbad : badP p a with
    | true =>
      have he : putE L k p a = 1 := by unfold putE; rw [if_pos hh, if_pos hbad]
      have HE := hid he
      have HL : Hid (putL L k p a = L) := put_err (by rw [he]; decide)
      rw [hbad] at HSP
      clear h hh he h1 hO hb hi hp ha hW hx1 hx2 hsz hk hgn hy hbad HAT
      go_enter Try.func29, Try.ntmps29
      go_upto_region 1 with fail
      rw [← HWA.out]
      go_wp2_with fail
      refine HC.out.mono ?_
      rintro e w1 ⟨rfl, hb1⟩
      have HB1 := hid hb1
      obtain ⟨w2, hw2⟩ : ∃ w2, w2 = w1.alloc (.cells #[.int .i64 y.kf, .int .i64 y.ki, .int .i64 y.pl, .int .i64 y.at', .int .i64 y.ow, .int .i64 y.rf, .int .i64 0, .bool false, .bool y.dr] 45) := ⟨_, rfl⟩
      have HW2 := hid hw2
      have hl : Below wa.heap.size wa w2 := hw2 ▸ bel_trans hb1 (below_alloc _ _) (Nat.le_refl _)
      have b1 : w2.cell? ⟨w.heap.size, 0, none⟩ = some (.int .i64 p) := by rw [(HX1.out.below hl HX1.out.lt).cell]; rfl
      have b2 : w2.cell? ⟨w.heap.size + 1, 0, none⟩ = some (.int .i64 a) := by rw [(HX2.out.below hl HX2.out.lt).cell]; rfl
      have HLB := hid hl
      clear hb1 hw2 hl
      go_upto_region 2 with fail
      rw [← HW2.out]
      go_wp2_with fail
      refine (HSP.out _).mono ?_
      rintro e w3 ⟨rfl, rfl⟩
      go_wp2_with fail
      go_ret
      exact ⟨by rw [HE.out]; rfl, by rw [HL.out]; exact H1.out.later HLB.out, Out.ofBelow (bel_trans HB.out HLB.out (Nat.le_refl _))⟩
    | false =>
      have hx : putE L k p a = if 0 ≤ atL L p a ∧ atL L p a ≠ k then 4 else 0 := by unfold putE; rw [if_pos hh, if_neg (by rw [hbad]; decide)]
      obtain ⟨z, hz⟩ : ∃ z, z = atL L p a := ⟨_, rfl⟩
      have hza : z = -1 ∨ 0 ≤ z := by
        rcases at_cases L p a with e | ⟨m, -, e, -⟩ <;> omega
      rw [← hz] at HAT hx
      rw [hbad] at HSP
      by_cases hbz : 0 ≤ z ∧ z ≠ k
      · have he : putE L k p a = 4 := by rw [hx, if_pos hbz]
        have HE := hid he
        have HL : Hid (putL L k p a = L) := put_err (by rw [he]; decide)
        have d1 : (z != -1) = true := by simp; omega
        have d2 : (z != (k : Int)) = true := by simpa using hbz.2
        clear h hh he h1 hO hb hi hp ha hW hx1 hx2 hsz hk hgn hy hbad hx hz hza hbz
        go_enter Try.func29, Try.ntmps29
        go_upto_region 1 with fail
        rw [← HWA.out]
        go_wp2_with fail
        refine HC.out.mono ?_
        rintro e w1 ⟨rfl, hb1⟩
        have HB1 := hid hb1
        obtain ⟨w2, hw2⟩ : ∃ w2, w2 = w1.alloc (.cells #[.int .i64 y.kf, .int .i64 y.ki, .int .i64 y.pl, .int .i64 y.at', .int .i64 y.ow, .int .i64 y.rf, .int .i64 0, .bool false, .bool y.dr] 45) := ⟨_, rfl⟩
        have HW2 := hid hw2
        have hl : Below wa.heap.size wa w2 := hw2 ▸ bel_trans hb1 (below_alloc _ _) (Nat.le_refl _)
        have b1 : w2.cell? ⟨w.heap.size, 0, none⟩ = some (.int .i64 p) := by rw [(HX1.out.below hl HX1.out.lt).cell]; rfl
        have b2 : w2.cell? ⟨w.heap.size + 1, 0, none⟩ = some (.int .i64 a) := by rw [(HX2.out.below hl HX2.out.lt).cell]; rfl
        have HLB := hid hl
        clear hb1 hw2 hl
        go_upto_region 2 with fail
        rw [← HW2.out]
        go_wp2_with fail
        refine (HSP.out _).mono ?_
        rintro e w3 ⟨rfl, rfl⟩
        go_wp2_with fail
        refine (HAT.out _ (H1.out.later HLB.out)).mono ?_
        rintro e w3 ⟨rfl, rfl⟩
        go_wp2_with fail
        go_ret
        exact ⟨by rw [HE.out]; rfl, by rw [HL.out]; exact H1.out.later HLB.out, Out.ofBelow (bel_trans HB.out HLB.out (Nat.le_refl _))⟩
      · have he : putE L k p a = 0 := by rw [hx, if_neg hbz]
        have HE := hid he
        have HO := hid hO
        have HK := hid hk
        have HGN := hid hgn
        have HY := hid hy
        have HWY := hid (wf_at hO hk (hW k hk).2.2)
        have HPA := hid (And.intro hp ha)
        have HWI := hid hi
        have HLL := hid hL
        have HGE : Hid (getE L k = 0) := getE_has.2 hh
        have hway : (z != -1) = false ∨ ((z != -1) = true ∧ (z != (k : Int)) = false) := by
          simp only [bne_eq_false_iff_eq, bne_iff_ne, ne_eq]; omega
        have HLT := hid h.lt
        have hpz : (p != 0) = false ∨ (p != 0) = true := by
          cases p != 0
          · exact Or.inl rfl
          · exact Or.inr rfl
        clear h hh he h1 hO hb hi hp ha hW hx1 hx2 hsz hk hgn hy hbad hx hz hza hbz hL
        rcases hpz with hpz | hpz
        · have HP0 : Hid (p = 0) := by show _ = _; simpa using hpz
          rcases hway with d1 | ⟨d1, d2⟩
          all_goals
            go_enter Try.func29, Try.ntmps29
            go_upto_region 1 with fail
            rw [← HWA.out]
            go_wp2_with fail
            refine HC.out.mono ?_
            rintro e w1 ⟨rfl, hb1⟩
            have HB1 := hid hb1
            obtain ⟨w2, hw2⟩ : ∃ w2, w2 = w1.alloc (.cells #[.int .i64 y.kf, .int .i64 y.ki, .int .i64 y.pl, .int .i64 y.at', .int .i64 y.ow, .int .i64 y.rf, .int .i64 0, .bool false, .bool y.dr] 45) := ⟨_, rfl⟩
            have HW2 := hid hw2
            have hl : Below wa.heap.size wa w2 := hw2 ▸ bel_trans hb1 (below_alloc _ _) (Nat.le_refl _)
            have hr1 := HX1.out.below hl HX1.out.lt
            have hr2 := HX2.out.below hl HX2.out.lt
            have b1 : w2.cell? ⟨w.heap.size, 0, none⟩ = some (.int .i64 p) := by rw [hr1.cell]; rfl
            have b2 : w2.cell? ⟨w.heap.size + 1, 0, none⟩ = some (.int .i64 a) := by rw [hr2.cell]; rfl
            have hnr : RowAt w2 w1.heap.size 45 (pc y).toList := by rw [hw2]; exact nine_row y
            have c2 : w2.cell? ⟨w1.heap.size, 2, none⟩ = some (.int .i64 y.pl) := by rw [hnr.cell]; rfl
            have c3 : w2.cell? ⟨w1.heap.size, 3, none⟩ = some (.int .i64 y.at') := by rw [hnr.cell]; rfl
            have h2 := H1.out.later hl
            have H2 := hid h2
            have t3 := h2.c3
            have HLB := hid hl
            have hwy := HWY.out
            rw [← HY.out] at hwy
            obtain ⟨w3, hrun, hm3, hb3⟩ := (h2.drewN 1).s.drop keyed73 Try.underlying64 mkK_inj (x := (y.pl, y.at')) (key73 hwy.1 hwy.2) 0
            have hrun' : (Builtin.delete_ #[64, 73] 0 #[.map (some ms), .agg #[.int .i64 y.pl, .int .i64 y.at']]).run Try.prog w2.drew = .ok (.tuple #[]) w3 := hrun
            have hb3' : Apart ms w2 w3 := ⟨hb3.os, hb3.tape, hb3.output, Nat.le_of_eq hb3.size.symm, fun k _ hk => hb3.block k hk⟩
            have hms := HLT.out.2.2.2
            have hq3 : QT w3 t mp (L.countP liveP) (.int .i64 L.length) (.map (some mf)) (.map (some ms)) L := ⟨h2.h.apart hb3' h2.nt.2.2, h2.p.block (hb3'.block mp h2.lt.2.1 h2.ne.2.1)⟩
            have hx31 := hr1.apart hb3' (by omega)
            have hx32 := hr2.apart hb3' (by omega)
            have hm3' : MapG 73 mkK w3 ms (nL L k) (GL L k) := by rw [HY.out] at hm3; exact hm3
            have b31 : w3.cell? ⟨w.heap.size, 0, none⟩ = some (.int .i64 p) := by rw [hx31.cell]; rfl
            have HCH := hid (put_change hq3 (live_lt HLL.out) HWI.out HGE.out hx31 hx32)
            have HM3 := hid hm3'
            have HB3 := hid hb3'
            clear hb1 hw2 hl hr1 hr2 hnr h2 hwy hrun hm3 hb3 hb3' hms hq3 hx31 hx32 hm3'
            go_upto_region 2 with fail
            rw [← HW2.out]
            go_wp2_with fail
            refine (HSP.out _).mono ?_
            rintro e w9 ⟨rfl, rfl⟩
            go_wp2_with fail
            refine (HAT.out _ H2.out).mono ?_
            rintro e w9 ⟨rfl, rfl⟩
            go_wp2_with fail
            go_region
            go_wp2_with fail
            refine HCH.out.mono ?_
            rintro e w5 ⟨rfl, hm5, ha5⟩
            have HM5 := hid hm5
            have HA5 := hid ha5
            clear hm5 ha5
            go_wp2_with fail
            go_ret
            have hf := put_end H2.out HK.out HGN.out HE.out (HM3.out.congr (by obtain rfl := HP0.out; exact nS_put0 HO.out HK.out HGN.out a) (fun x => by obtain rfl := HP0.out; exact GS_put0 HO.out HE.out x)) HB3.out HM5.out HA5.out
            exact ⟨by rw [HE.out]; rfl, hf.1, (Out.ofBelow (bel_trans HB.out HLB.out (Nat.le_refl _))).trans hf.2⟩
        · have HP0 : Hid (p ≠ 0) := by show _ ≠ _; simpa using hpz
          rcases hway with d1 | ⟨d1, d2⟩
          all_goals
            go_enter Try.func29, Try.ntmps29
            go_upto_region 1 with fail
            rw [← HWA.out]
            go_wp2_with fail
            refine HC.out.mono ?_
            rintro e w1 ⟨rfl, hb1⟩
            have HB1 := hid hb1
            obtain ⟨w2, hw2⟩ : ∃ w2, w2 = w1.alloc (.cells #[.int .i64 y.kf, .int .i64 y.ki, .int .i64 y.pl, .int .i64 y.at', .int .i64 y.ow, .int .i64 y.rf, .int .i64 0, .bool false, .bool y.dr] 45) := ⟨_, rfl⟩
            have HW2 := hid hw2
            have hl : Below wa.heap.size wa w2 := hw2 ▸ bel_trans hb1 (below_alloc _ _) (Nat.le_refl _)
            have hr1 := HX1.out.below hl HX1.out.lt
            have hr2 := HX2.out.below hl HX2.out.lt
            have b1 : w2.cell? ⟨w.heap.size, 0, none⟩ = some (.int .i64 p) := by rw [hr1.cell]; rfl
            have b2 : w2.cell? ⟨w.heap.size + 1, 0, none⟩ = some (.int .i64 a) := by rw [hr2.cell]; rfl
            have hnr : RowAt w2 w1.heap.size 45 (pc y).toList := by rw [hw2]; exact nine_row y
            have c2 : w2.cell? ⟨w1.heap.size, 2, none⟩ = some (.int .i64 y.pl) := by rw [hnr.cell]; rfl
            have c3 : w2.cell? ⟨w1.heap.size, 3, none⟩ = some (.int .i64 y.at') := by rw [hnr.cell]; rfl
            have h2 := H1.out.later hl
            have H2 := hid h2
            have t3 := h2.c3
            have HLB := hid hl
            have hwy := HWY.out
            rw [← HY.out] at hwy
            obtain ⟨w3, hrun, hm3, hb3⟩ := (h2.drewN 1).s.drop keyed73 Try.underlying64 mkK_inj (x := (y.pl, y.at')) (key73 hwy.1 hwy.2) 0
            have hrun' : (Builtin.delete_ #[64, 73] 0 #[.map (some ms), .agg #[.int .i64 y.pl, .int .i64 y.at']]).run Try.prog w2.drew = .ok (.tuple #[]) w3 := hrun
            have hb3' : Apart ms w2 w3 := ⟨hb3.os, hb3.tape, hb3.output, Nat.le_of_eq hb3.size.symm, fun k _ hk => hb3.block k hk⟩
            have hms := HLT.out.2.2.2
            have hq3 : QT w3 t mp (L.countP liveP) (.int .i64 L.length) (.map (some mf)) (.map (some ms)) L := ⟨h2.h.apart hb3' h2.nt.2.2, h2.p.block (hb3'.block mp h2.lt.2.1 h2.ne.2.1)⟩
            have hx31 := hr1.apart hb3' (by omega)
            have hx32 := hr2.apart hb3' (by omega)
            have hm3' : MapG 73 mkK w3 ms (nL L k) (GL L k) := by rw [HY.out] at hm3; exact hm3
            have b31 : w3.cell? ⟨w.heap.size, 0, none⟩ = some (.int .i64 p) := by rw [hx31.cell]; rfl
            have b32 : w3.cell? ⟨w.heap.size + 1, 0, none⟩ = some (.int .i64 a) := by rw [hx32.cell]; rfl
            have t33 : w3.cell? ⟨t, 3, none⟩ = some (.map (some ms)) := by rw [hq3.h.cell]; rfl
            have hfr : GL L k (p, a) = none := GL_free HE.out
            have hnl : nL L k < 1000000 := by
              have e1 := nL_is HO.out HK.out HGN.out
              have e2 := count_le somP L
              have e3 := HLL.out
              omega
            have hm3d : MapG 73 mkK w3.drew ms (nL L k) (GL L k) := hm3'.block rfl
            obtain ⟨w4, hrun4, hm4, hb4⟩ := hm3d.store keyed73 Try.underlying64 mkK_inj (x := (p, a)) (key73 HPA.out.1 HPA.out.2) hnl (.int .i64 (k : Int))
            rw [hfr] at hm4
            have hrun4' : (Instr.mapUpdate 64 (.map (some ms)) (.agg #[.int .i64 p, .int .i64 a]) (.int .i64 k)).run Try.prog w3.drew = .ok () w4 := hrun4
            have hb4' : Apart ms w3 w4 := ⟨hb4.os, hb4.tape, hb4.output, Nat.le_of_eq hb4.size.symm, fun k _ hk => hb4.block k hk⟩
            have hq4 : QT w4 t mp (L.countP liveP) (.int .i64 L.length) (.map (some mf)) (.map (some ms)) L := ⟨hq3.h.apart hb4' h2.nt.2.2, hq3.p.block (hb4'.block mp hq3.p.lt h2.ne.2.1)⟩
            have HCH := hid (put_change hq4 (live_lt HLL.out) HWI.out HGE.out (hx31.apart hb4' (by omega)) (hx32.apart hb4' (by omega)))
            have hm4' : MapG 73 mkK w4 ms (nL L k + 1) (fun y => if y = (p, a) then some (.int .i64 (k : Int)) else GL L k y) := hm4
            have HM4 := hid hm4'
            have HB4 := hid (hb3'.trans hb4')
            clear hb1 hw2 hl hr1 hr2 hnr h2 hwy hrun hm3 hb3 hb3' hms hq3 hx31 hx32 hm3' hfr hnl hm3d hrun4 hm4 hb4 hb4' hq4 hm4'
            go_upto_region 2 with fail
            rw [← HW2.out]
            go_wp2_with fail
            refine (HSP.out _).mono ?_
            rintro e w9 ⟨rfl, rfl⟩
            go_wp2_with fail
            refine (HAT.out _ H2.out).mono ?_
            rintro e w9 ⟨rfl, rfl⟩
            go_wp2_with fail
            go_region
            go_wp2_with fail
            go_region
            go_wp2_with fail
            refine HCH.out.mono ?_
            rintro e w5 ⟨rfl, hm5, ha5⟩
            have HM5 := hid hm5
            have HA5 := hid ha5
            clear hm5 ha5
            go_wp2_with fail
            go_ret
            have hf := put_end H2.out HK.out HGN.out HE.out (HM4.out.congr (nS_put HO.out HK.out HGN.out HP0.out a) (fun x => GS_put HO.out HP0.out HE.out x)) HB4.out HM5.out HA5.out
            exact ⟨by rw [HE.out]; rfl, hf.1, (Out.ofBelow (bel_trans HB.out HLB.out (Nat.le_refl _))).trans hf.2⟩
end
end Go.Proofs.Ytponlldgnlckfaa
