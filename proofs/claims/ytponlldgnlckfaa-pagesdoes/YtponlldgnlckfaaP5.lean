/-
  The contracts of change, Own and Mark.
-/
import Derived.Test.YtponlldgnlckfaaP4
set_option maxRecDepth 100000
namespace Go.Proofs.Ytponlldgnlckfaa
open Go.RowKit

theorem GP_turn {L : List Pg} {k : Nat} (hk : k < L.length) (x : Pg) (hg : x.gn = false) (id : Int) : (if id = (k : Int) then some (pv x) else GP L id) = GP (L.set k x) id := by
  rw [GP_set hk, hg]
  rfl
theorem nine_cells {w : World} {b : Nat} {y : Pg} (h : RowAt w b 45 (pc y).toList) (n : Nat) : ∀ i : Nat, i < 9 → (w.drewN n).cell? ⟨b, i, none⟩ = (pc y)[i]? := by
  intro i _
  rw [(h.drewN n).cell]
  simp

/-- A page turned by a closure. -/
def turnL (L : List Pg) (id : Int) (g : Pg → Pg) : List Pg := if has L id then setL L id g else L
set_option maxHeartbeats 4000000 in
theorem pchange {w : World} {t mp n : Nat} {v0 v2 v3 : Value} {L : List Pg} (h : QT w t mp n v0 v2 v3 L) (hn : n < 1000000) {id : Int} (hi : (Lit.int .i64 id).wf = true) (g : Pg → Pg) (hg : ∀ q, (g q).gn = q.gn) (F : Nat) (cb : List Value)
    (hF : F = 41 ∧ (∃ b1 b2, cb = [.pointer (some ⟨b1, 0, none⟩), .pointer (some ⟨b2, 0, none⟩)]) ∨ F = 42 ∧ (∃ b1, cb = [.pointer (some ⟨b1, 0, none⟩)]) ∨ F = 43 ∧ (∃ b1, cb = [.pointer (some ⟨b1, 0, none⟩)]) ∨ F = 44 ∧ (∃ b1, cb = [.pointer (some ⟨b1, 0, none⟩)]))
    (hN : has L id = true → ∀ W b, Below w.heap.size w W → w.heap.size ≤ b → RowAt W b 45 (pc (pg L id.toNat)).toList → Turns F cb g W b (pg L id.toNat)) :
    Calls Try.prog 40 #[.pointer (some ⟨t, 0, none⟩), .int .i64 id, .func (.func F) #[] cb.toArray] w fun e w' => e = .returned (.int .i64 (getE L id)) ∧ MapG 3 mkI w' mp n (GP (turnL L id g)) ∧ Apart mp w w' := by
  have HG := qget h hi
  have H0 := hid h
  have HWF := hid hi
  have HN := hid hN
  have HML : Hid (mp < w.heap.size) := h.p.lt
  have HTL : Hid (t < w.heap.size) := h.h.lt
  have HTM : Hid (t ≠ mp) := h.p.not_row h.h
  clear hN hi
  cases hh : has L id with
  | false =>
    have HL : Hid (turnL L id g = L) := by show _ = _; unfold turnL; rw [hh]; rfl
    have e1 : getE L id = 2 := by unfold getE; rw [hh]; rfl
    have e2 : getL L id = gone := by unfold getL; rw [hh]; rfl
    rw [e1, e2] at HG
    rw [e1]
    have HC : Hid (Calls Try.prog 19 #[.pointer (some ⟨t, 0, none⟩), .int .i64 id] w fun e w' => e = .returned (.tuple #[.agg #[.int .i64 0, .int .i64 0, .int .i64 0, .int .i64 0, .int .i64 0, .int .i64 0, .int .i64 0, .bool false, .bool false], .int .i64 2]) ∧ Below w.heap.size w w') := HG
    clear HG h hh e1 e2 HN
    rcases hF with ⟨rfl, b1, b2, rfl⟩ | ⟨rfl, b1, rfl⟩ | ⟨rfl, b1, rfl⟩ | ⟨rfl, b1, rfl⟩
    all_goals
      go_enter Try.func40, Try.ntmps40
      go_wp2_with fail
      refine HC.out.mono ?_
      rintro e w1 ⟨rfl, hb⟩
      have HB := hid hb
      clear hb
      go_wp2_with fail
      go_ret
      exact ⟨rfl, by rw [HL.out]; exact ((H0.out.later HB.out).later (below_alloc _ _)).p, Apart.ofBelow (bel_trans HB.out (below_alloc _ _) (Nat.le_refl _))⟩
  | true =>
    obtain ⟨k, rfl, hk, hgn⟩ := has_nat' hh
    have e1 : getE L k = 0 := by unfold getE; rw [hh]; rfl
    rw [e1, getL_nat hk hgn] at HG
    rw [e1]
    have hN2 := HN.out hh
    obtain ⟨y, hy⟩ : ∃ y, y = pg L k := ⟨_, rfl⟩
    have hNy : ∀ W b, Below w.heap.size w W → w.heap.size ≤ b → RowAt W b 45 (pc y).toList → Turns F cb g W b y := by rw [hy]; exact hN2
    have HNY := hid hNy
    rw [← hy] at HG
    obtain ⟨z, hz⟩ : ∃ z, z = g y := ⟨_, rfl⟩
    have HZ := hid hz
    have HL : Hid (GP (turnL L k g) = GP (L.set k z)) := by show _ = _; rw [hz, hy]; unfold turnL; rw [if_pos hh]; rfl
    have HGP : Hid (∀ id, (if id = (k : Int) then some (pv z) else GP L id) = GP (L.set k z) id) := GP_turn hk z (by rw [hz, hg, hy]; exact hgn)
    have HSM : Hid ((GP L (k : Int)).isSome = true) := by show _ = _; rw [GP_some]; exact hh
    have HC : Hid (Calls Try.prog 19 #[.pointer (some ⟨t, 0, none⟩), .int .i64 k] w fun e w' => e = .returned (.tuple #[.agg #[.int .i64 y.kf, .int .i64 y.ki, .int .i64 y.pl, .int .i64 y.at', .int .i64 y.ow, .int .i64 y.rf, .int .i64 0, .bool false, .bool y.dr], .int .i64 0]) ∧ Below w.heap.size w w') := HG
    clear HG h hh e1 HN hN2 hy hNy hz hk hgn hg
    rcases hF with ⟨rfl, b1, b2, rfl⟩ | ⟨rfl, b1, rfl⟩ | ⟨rfl, b1, rfl⟩ | ⟨rfl, b1, rfl⟩
    all_goals
      go_enter Try.func40, Try.ntmps40
      go_wp2_with fail
      refine HC.out.mono ?_
      rintro e w1 ⟨rfl, hb⟩
      have HB := hid hb
      have HB2 : Hid (Below w.heap.size w (w1.alloc (.cells #[.int .i64 y.kf, .int .i64 y.ki, .int .i64 y.pl, .int .i64 y.at', .int .i64 y.ow, .int .i64 y.rf, .int .i64 0, .bool false, .bool y.dr] 45))) := bel_trans hb (below_alloc _ _) (Nat.le_refl _)
      have HT := hid (HNY.out _ w1.heap.size HB2.out hb.size (RowAt.new w1 (pc y) 45))
      unfold Turns at HT
      rw [← HZ.out] at HT
      clear hb
      go_wp2_with fail
      refine HT.out.mono ?_
      rintro e w3 ⟨rfl, hrow, hbut⟩
      have hne : mp ≠ w1.heap.size := by have := HML.out; have := HB.out.size; omega
      have hnt : t ≠ w1.heap.size := by have := HTL.out; have := HB.out.size; omega
      have hq2 := H0.out.later HB2.out
      have hp3 : MapG 3 mkI w3 mp n (GP L) := hq2.p.block (hbut.block mp hne)
      have hr3 : RowAt w3 t 66 [v0, .map (some mp), v2, v3] := hq2.h.but hbut hnt
      have hp3' : MapG 3 mkI w3.drew mp n (GP L) := hp3.block rfl
      obtain ⟨w4, hrun, hp4, hb4⟩ := hp3'.store keyed3 Try.underlying62 mkI_inj (keyI HWF.out) hn (pv z)
      unfold mkI pv pc at hrun
      rw [if_pos HSM.out] at hp4
      have HP4 : Hid (MapG 3 mkI w4 mp n (GP (L.set k z))) := hp4.congr rfl HGP.out
      have HB4 : Hid (Apart mp w w4) := (Apart.ofBelow (HB2.out.trans (hbut.below HB.out.size))).trans ⟨hb4.os, hb4.tape, hb4.output, Nat.le_of_eq hb4.size.symm, fun k _ hk => hb4.block k hk⟩
      have c1 : w3.cell? ⟨t, 1, none⟩ = some (.map (some mp)) := by rw [hr3.cell]; rfl
      have k0 : w3.cell? ⟨w1.heap.size, 0, none⟩ = some (.int .i64 z.kf) := by rw [hrow.cell]; rfl
      have k1 : w3.cell? ⟨w1.heap.size, 1, none⟩ = some (.int .i64 z.ki) := by rw [hrow.cell]; rfl
      have k2 : w3.cell? ⟨w1.heap.size, 2, none⟩ = some (.int .i64 z.pl) := by rw [hrow.cell]; rfl
      have k3 : w3.cell? ⟨w1.heap.size, 3, none⟩ = some (.int .i64 z.at') := by rw [hrow.cell]; rfl
      have k4 : w3.cell? ⟨w1.heap.size, 4, none⟩ = some (.int .i64 z.ow) := by rw [hrow.cell]; rfl
      have k5 : w3.cell? ⟨w1.heap.size, 5, none⟩ = some (.int .i64 z.rf) := by rw [hrow.cell]; rfl
      have k6 : w3.cell? ⟨w1.heap.size, 6, none⟩ = some (.int .i64 0) := by rw [hrow.cell]; rfl
      have k7 : w3.cell? ⟨w1.heap.size, 7, none⟩ = some (.bool false) := by rw [hrow.cell]; rfl
      have k8 : w3.cell? ⟨w1.heap.size, 8, none⟩ = some (.bool z.dr) := by rw [hrow.cell]; rfl
      clear hrow hbut hne hnt hq2 hp3 hr3 hp3' hp4 hb4
      go_wp2_with fail
      go_region
      go_wp2
      go_ret
      exact ⟨rfl, by rw [HL.out]; exact HP4.out, HB4.out⟩

section
variable {w0 w w' : World} {t mp mf ms : Nat} {L : List Pg}
theorem out_apart {S : Nat → Prop} {p : Nat} (h : Apart p w w') (hp : S p) : Out S w w' := ⟨h.os, h.tape, h.output, h.size, fun k hk hn => h.block k hk (fun e => hn (e ▸ hp))⟩
/-- The table once its pages' map has turned, from a world behind. -/
theorem PT.pages {u : World} (h : PT w0 w t mp mf ms L) (hu : Below w.heap.size w u) {L' : List Pg} (hp : MapG 3 mkI w' mp (L.countP liveP) (GP L')) (ha : Apart mp u w') (hl : L'.length = L.length) (h1 : L'.countP liveP = L.countP liveP)
    (h2 : L'.countP fileP = L.countP fileP) (h3 : L'.countP somP = L.countP somP) (h4 : ∀ x, GF L' x = GF L x) (h5 : ∀ x, GS L' x = GS L x) : PT w0 w' t mp mf ms L' := by
  have hq := h.later hu
  refine ⟨by rw [hl]; exact hq.h.apart ha hq.nt.1, by rw [h1]; exact hp, (hq.f.block (ha.block mf hq.lt.2.2.1 (Ne.symm h.ne.1))).congr h2.symm (fun x => (h4 x).symm), (hq.s.block (ha.block ms hq.lt.2.2.2 (Ne.symm h.ne.2.1))).congr h3.symm (fun x => (h5 x).symm), h.ne, h.lo, ?_⟩
  exact hq.bel.trans (ha.below h.lo.2.1 hq.bel.size)
/-- One page turned, neither its key nor its place. -/
theorem PT.turn {u : World} (h : PT w0 w t mp mf ms L) (hu : Below w.heap.size w u) {id : Int} {g : Pg → Pg} (hp : MapG 3 mkI w' mp (L.countP liveP) (GP (turnL L id g))) (ha : Apart mp u w') (g1 : ∀ q, (g q).gn = q.gn) (g2 : ∀ q, (g q).kf = q.kf) (g3 : ∀ q, (g q).ki = q.ki)
    (g4 : ∀ q, (g q).pl = q.pl) (g5 : ∀ q, (g q).at' = q.at') : PT w0 w' t mp mf ms (turnL L id g) := by
  by_cases hh : has L id = true
  · obtain ⟨k, rfl, hk, -⟩ := has_nat' hh
    have e : turnL L k g = L.set k (g (pg L k)) := by unfold turnL; rw [if_pos hh]; rfl
    rw [e] at hp ⊢
    exact h.pages hu hp ha (by simp) (nP_set hk _ (g1 _)) (nF_set hk _ (g1 _) (g2 _)) (nS_set hk _ (g1 _) (g4 _)) (fun x => GF_set hk _ (g1 _) (g2 _) (g3 _) x) (fun x => GS_set hk _ (g1 _) (g4 _) (g5 _) x)
  · have e : turnL L id g = L := by unfold turnL; rw [if_neg hh]
    rw [e] at hp ⊢
    exact h.pages hu hp ha rfl rfl rfl rfl (fun _ => rfl) (fun _ => rfl)
theorem own_turnL (L : List Pg) (id o : Int) : ownL L id o = turnL L id (ownG o) := rfl
theorem mark_turnL (L : List Pg) (id : Int) (d : Bool) : markL L id d = turnL L id (markG d) := rfl
theorem live_lt (h : L.length < 900000) : L.countP liveP < 1000000 := Nat.lt_of_le_of_lt (count_le _ _) (by omega)

set_option maxHeartbeats 1000000 in
theorem pown (h : PT w0 w t mp mf ms L) (hL : L.length < 900000) {id o : Int} (hi : (Lit.int .i64 id).wf = true) :
    Calls Try.prog 33 #[.pointer (some ⟨t, 0, none⟩), .int .i64 id, .int .i64 o] w fun e w' => e = .returned (.int .i64 (getE L id)) ∧ PT w0 w' t mp mf ms (ownL L id o) ∧ Out (Fo t mp mf ms) w w' := by
  have hb := below_alloc w (.cells #[.int .i64 o] 3)
  have hbx := RowAt.new w #[.int .i64 o] 3
  have HH := pchange (h.later hb).q (live_lt hL) hi (ownG o) (fun _ => rfl) 43 [.pointer (some ⟨w.heap.size, 0, none⟩)] (Or.inr (Or.inr (Or.inl ⟨rfl, _, rfl⟩)))
    (fun _ W b hW _ hr => town o w.heap.size W b _ hr (by rw [(hbx.below hW hbx.lt).cell]; rfl))
  have HC : Hid (Calls Try.prog 40 #[.pointer (some ⟨t, 0, none⟩), .int .i64 id, .func (.func 43) #[] #[.pointer (some ⟨w.heap.size, 0, none⟩)]] (w.alloc (.cells #[.int .i64 o] 3)) fun e w' => e = .returned (.int .i64 (getE L id)) ∧ MapG 3 mkI w' mp (L.countP liveP) (GP (turnL L id (ownG o))) ∧ Apart mp (w.alloc (.cells #[.int .i64 o] 3)) w') := HH
  have H0 := hid h
  have HB := hid hb
  clear HH hbx h hb
  go_enter Try.func33, Try.ntmps33
  go_wp2_with fail
  refine HC.out.mono ?_
  rintro e w1 ⟨rfl, h1, h2⟩
  go_wp2_with fail
  go_ret
  exact ⟨rfl, H0.out.turn HB.out h1 h2 (fun _ => rfl) (fun _ => rfl) (fun _ => rfl) (fun _ => rfl) (fun _ => rfl), (Out.ofBelow HB.out).trans (out_apart h2 (Or.inr (Or.inl rfl)))⟩
set_option maxHeartbeats 1000000 in
theorem pmark (h : PT w0 w t mp mf ms L) (hL : L.length < 900000) {id : Int} {d : Bool} (hi : (Lit.int .i64 id).wf = true) :
    Calls Try.prog 34 #[.pointer (some ⟨t, 0, none⟩), .int .i64 id, .bool d] w fun e w' => e = .returned (.int .i64 (getE L id)) ∧ PT w0 w' t mp mf ms (markL L id d) ∧ Out (Fo t mp mf ms) w w' := by
  have hb := below_alloc w (.cells #[.bool d] 4)
  have hbx := RowAt.new w #[.bool d] 4
  have HH := pchange (h.later hb).q (live_lt hL) hi (markG d) (fun _ => rfl) 44 [.pointer (some ⟨w.heap.size, 0, none⟩)] (Or.inr (Or.inr (Or.inr ⟨rfl, _, rfl⟩)))
    (fun _ W b hW _ hr => tmark d w.heap.size W b _ hr (by rw [(hbx.below hW hbx.lt).cell]; rfl))
  have HC : Hid (Calls Try.prog 40 #[.pointer (some ⟨t, 0, none⟩), .int .i64 id, .func (.func 44) #[] #[.pointer (some ⟨w.heap.size, 0, none⟩)]] (w.alloc (.cells #[.bool d] 4)) fun e w' => e = .returned (.int .i64 (getE L id)) ∧ MapG 3 mkI w' mp (L.countP liveP) (GP (turnL L id (markG d))) ∧ Apart mp (w.alloc (.cells #[.bool d] 4)) w') := HH
  have H0 := hid h
  have HB := hid hb
  clear HH hbx h hb
  go_enter Try.func34, Try.ntmps34
  go_wp2_with fail
  refine HC.out.mono ?_
  rintro e w1 ⟨rfl, h1, h2⟩
  go_wp2_with fail
  go_ret
  exact ⟨rfl, H0.out.turn HB.out h1 h2 (fun _ => rfl) (fun _ => rfl) (fun _ => rfl) (fun _ => rfl) (fun _ => rfl), (Out.ofBelow HB.out).trans (out_apart h2 (Or.inr (Or.inl rfl)))⟩
end
end Go.Proofs.Ytponlldgnlckfaa
