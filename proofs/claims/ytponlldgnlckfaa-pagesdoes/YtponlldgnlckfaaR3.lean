/-
  The contracts of the document's Get, Own, Mark, Drop, Put, Refer.
-/
import Derived.Test.YtponlldgnlckfaaR2
namespace Go.Proofs.Ytponlldgnlckfaa
open Go.RowKit

theorem setNine {B : Nat} {w w4 : World} {b : Nat} {z : Pg} (y : Pg) (hz : RowAt w4 b 45 (pc z).toList) (hb : Below B w w4) (hB : B ≤ b) :
    ∃ w5, w5 = (((((((((w4.setCell ⟨b, 0, none⟩ (.int .i64 y.kf)).setCell ⟨b, 1, none⟩ (.int .i64 y.ki)).setCell ⟨b, 2, none⟩ (.int .i64 y.pl)).setCell ⟨b, 3, none⟩ (.int .i64 y.at')).setCell ⟨b, 4, none⟩ (.int .i64 y.ow)).setCell ⟨b, 5, none⟩ (.int .i64 y.rf)).setCell ⟨b, 6, none⟩ (.int .i64 0)).setCell ⟨b, 7, none⟩ (.bool false)).setCell ⟨b, 8, none⟩ (.bool y.dr)) ∧ RowAt w5 b 45 (pc y).toList ∧ Below B w w5 :=
  ⟨_, rfl, ((((((((hz.set 0 _).set 1 _).set 2 _).set 3 _).set 4 _).set 5 _).set 6 _).set 7 _).set 8 _, ((((((((hb.setCell hB _).setCell hB _).setCell hB _).setCell hB _).setCell hB _).setCell hB _).setCell hB _).setCell hB _).setCell hB _⟩
theorem res45 {fn : Func} {p u : Tmp} (h : fn.results = #[.cell p 45, .tmp u]) (tmps : Array Value) (w : World) (g : Nat) (y : Pg)
    (hp : tmps.getD p undef = .pointer (some ⟨g, 0, none⟩)) (hg : RowAt w g 45 (pc y).toList) :
    (results fn tmps).run Try.prog w = .ok (.tuple #[pv y, tmps.getD u undef]) w := by
  have hl := run_loadVar_row (P := Try.prog) w g 45 45 (pc y) (0, 0) _ hg under45 rfl (by kernel_rfl)
  rw [results_cell_tmp h, hp]
  simp [asAddr, hl, Result.andThen, pv]
set_option maxRecDepth 100000 in
set_option maxHeartbeats 4000000 in
theorem rget (B r : Nat) (L : List Pg) (id : Int) (w : World) (h : RefIs B w r L) :
    Calls Try.prog 20 #[.pointer (some ⟨r, 0, none⟩), .int .i64 id] w fun e w' => e = .returned (.tuple #[pv (getL L id), .int .i64 (getE L id)]) ∧ Below w.heap.size w w' := by
  have hb0 := below_alloc w (.cells (pc gone) 45)
  have hrow := RowAt.new w (pc gone) 45
  have h0 := h.below hb0
  obtain ⟨w0, hw0⟩ : ∃ w0, w0 = w.alloc (.cells (pc gone) 45) := ⟨_, rfl⟩
  rw [← hw0] at hb0 hrow h0
  have hw0' : w0 = w.alloc (.cells #[.int .i64 0, .int .i64 0, .int .i64 0, .int .i64 0, .int .i64 0, .int .i64 0, .int .i64 0, .bool false, .bool false] 45) := hw0
  clear hw0
  have f0 := hrow.frozen 0
  have f1 := hrow.frozen 1
  have f2 := hrow.frozen 2
  have f3 := hrow.frozen 3
  have f4 := hrow.frozen 4
  have f5 := hrow.frozen 5
  have f6 := hrow.frozen 6
  have f7 := hrow.frozen 7
  have f8 := hrow.frozen 8
  have z0 : w0.cell? ⟨w.heap.size, 0, none⟩ = some (.int .i64 0) := by rw [hrow.cell]; rfl
  have z1 : w0.cell? ⟨w.heap.size, 1, none⟩ = some (.int .i64 0) := by rw [hrow.cell]; rfl
  have z2 : w0.cell? ⟨w.heap.size, 2, none⟩ = some (.int .i64 0) := by rw [hrow.cell]; rfl
  have z3 : w0.cell? ⟨w.heap.size, 3, none⟩ = some (.int .i64 0) := by rw [hrow.cell]; rfl
  have z4 : w0.cell? ⟨w.heap.size, 4, none⟩ = some (.int .i64 0) := by rw [hrow.cell]; rfl
  have z5 : w0.cell? ⟨w.heap.size, 5, none⟩ = some (.int .i64 0) := by rw [hrow.cell]; rfl
  have z6 : w0.cell? ⟨w.heap.size, 6, none⟩ = some (.int .i64 0) := by rw [hrow.cell]; rfl
  have z7 : w0.cell? ⟨w.heap.size, 7, none⟩ = some (.bool false) := by rw [hrow.cell]; rfl
  have z8 : w0.cell? ⟨w.heap.size, 8, none⟩ = some (.bool false) := by rw [hrow.cell]; rfl
  have HW := hid hw0'
  have HROW := hid hrow
  have HB := hid hb0
  have HH := hid (rhas B r L id w0 h0)
  cases hh : has L id with
  | false =>
    rw [hh] at HH
    have HG : Hid (getL L id = gone) := by show _ = _; unfold getL; rw [hh]; rfl
    have HE : Hid (getE L id = 2) := by show _ = _; unfold getE; rw [hh]; rfl
    clear hrow hb0 h0 h hh hw0'
    go_enter Try.func20, Try.ntmps20
    go_wp2_with fail
    rw [← HW.out]
    refine HH.out.mono ?_
    rintro e w1 ⟨rfl, rfl⟩
    go_wp2_with fail
    obtain ⟨w5, hw5, hr5, hB5⟩ := setNine gone HROW.out HB.out (Nat.le_refl _)
    have hw6 := hw5
    simp only [gone] at hw6
    rw [← hw6]
    clear hw5 hw6 z0 z1 z2 z3 z4 z5 z6 z7 z8 f0 f1 f2 f3 f4 f5 f6 f7 f8
    refine bodyPost_ret (res45 rfl _ _ _ gone rfl hr5) rfl ?_
    exact ⟨by rw [HG.out, HE.out]; rfl, hB5⟩
  | true =>
    rw [hh] at HH
    have HE : Hid (getE L id = 0) := by show _ = _; unfold getE; rw [hh]; rfl
    obtain ⟨k, rfl, hk, hg⟩ := has_nat' hh
    have HG : Hid (getL L k = pg L k) := getL_nat hk hg
    obtain ⟨g, cap, hA⟩ := h0.at hk
    have hc := hA.head
    have hcell := fun i hi => hA.cell hk i hi
    obtain ⟨n0, n1, n2, n3, n4, n5, n6, n7, n8, -⟩ := nc2 (pg L k)
    have k0 := (hcell 0 (by omega)).trans n0
    have k1 := (hcell 1 (by omega)).trans n1
    have k2 := (hcell 2 (by omega)).trans n2
    have k3 := (hcell 3 (by omega)).trans n3
    have k4 := (hcell 4 (by omega)).trans n4
    have k5 := (hcell 5 (by omega)).trans n5
    have k6 := (hcell 6 (by omega)).trans n6
    have k7 := (hcell 7 (by omega)).trans n7
    have k8 := (hcell 8 (by omega)).trans n8
    rw [Nat.add_zero] at k0
    have d1 : decide ((k : Int) < (L.length : Int)) = true := by simp; omega
    obtain ⟨x, hx⟩ : ∃ x, x = pg L k := ⟨_, rfl⟩
    rw [← hx] at k0 k1 k2 k3 k4 k5 k8 HG
    obtain ⟨xf, xi, xp, xa, xo, xr, xd, xg⟩ := x
    simp only at k0 k1 k2 k3 k4 k5 k8
    clear hrow hb0 h0 h hh hw0' hg hx n0 n1 n2 n3 n4 n5 n6 n7 n8 hcell hA
    go_enter Try.func20, Try.ntmps20
    go_wp2_with fail
    rw [← HW.out]
    refine HH.out.mono ?_
    rintro e w1 ⟨rfl, rfl⟩
    clear HW HH
    go_wp2_with fail
    obtain ⟨w5, hw5, hr5, hB5⟩ := setNine ⟨xf, xi, xp, xa, xo, xr, xd, xg⟩ HROW.out HB.out (Nat.le_refl _)
    simp only at hw5
    rw [← hw5]
    clear hw5 z0 z1 z2 z3 z4 z5 z6 z7 z8 f0 f1 f2 f3 f4 f5 f6 f7 f8 k0 k1 k2 k3 k4 k5 k6 k7 k8
    refine bodyPost_ret (res45 rfl _ _ _ _ rfl hr5) rfl ?_
    exact ⟨by rw [HG.out, HE.out]; rfl, hB5⟩

set_option maxRecDepth 100000 in
set_option maxHeartbeats 4000000 in
theorem rown (B r : Nat) (L : List Pg) (id o : Int) (w : World) (h : RefIs B w r L) :
    Calls Try.prog 17 #[.pointer (some ⟨r, 0, none⟩), .int .i64 id, .int .i64 o] w fun e w' => e = .returned (.int .i64 (getE L id)) ∧ RefIs B w' r (ownL L id o) ∧ Below B w w' ∧ Kp pob w w' := by
  have HH := hid (rhas B r L id w h)
  cases hh : has L id with
  | false =>
    rw [hh] at HH
    have HE : Hid (getE L id = 2) := by show _ = _; unfold getE; rw [hh]; rfl
    have HL : Hid (ownL L id o = L) := by show _ = _; unfold ownL; rw [hh]; rfl
    have H0 := hid h
    clear h hh
    go_enter Try.func17, Try.ntmps17
    go_wp2_with fail
    refine HH.out.mono ?_
    rintro e w1 ⟨rfl, rfl⟩
    go_wp2_with fail
    go_ret
    exact ⟨by rw [HE.out]; rfl, by rw [HL.out]; exact H0.out, Below.refl _ _, Kp.refl _ _⟩
  | true =>
    rw [hh] at HH
    have HE : Hid (getE L id = 0) := by show _ = _; unfold getE; rw [hh]; rfl
    have HL : Hid (ownL L id o = setL L id (ownG o)) := by show _ = _; unfold ownL; rw [if_pos hh]
    obtain ⟨k, rfl, hk, hg⟩ := has_nat' hh
    obtain ⟨g, cap, hA⟩ := h.at hk
    have hc := hA.head
    have f4 := hA.frozen (k * 10 + 4)
    have c4 := (hA.cell hk 4 (by omega)).trans (nc2 _).2.2.2.2.1
    have HT := hid (hA.turn (ownG o (pg L k)) (v := .int .i64 o) hk (j := 4) (by omega) rfl)
    have d1 : decide ((k : Int) < (L.length : Int)) = true := by simp; omega
    clear h hh hg hA
    go_enter Try.func17, Try.ntmps17
    go_wp2_with fail
    refine HH.out.mono ?_
    rintro e w1 ⟨rfl, rfl⟩
    go_wp2_with fail
    go_ret
    exact ⟨by rw [HE.out]; rfl, by rw [HL.out]; exact HT.out.1.is, HT.out.2⟩
set_option maxRecDepth 100000 in
set_option maxHeartbeats 4000000 in
theorem rmark (B r : Nat) (L : List Pg) (id : Int) (d : Bool) (w : World) (h : RefIs B w r L) :
    Calls Try.prog 18 #[.pointer (some ⟨r, 0, none⟩), .int .i64 id, .bool d] w fun e w' => e = .returned (.int .i64 (getE L id)) ∧ RefIs B w' r (markL L id d) ∧ Below B w w' ∧ Kp pob w w' := by
  have HH := hid (rhas B r L id w h)
  cases hh : has L id with
  | false =>
    rw [hh] at HH
    have HE : Hid (getE L id = 2) := by show _ = _; unfold getE; rw [hh]; rfl
    have HL : Hid (markL L id d = L) := by show _ = _; unfold markL; rw [hh]; rfl
    have H0 := hid h
    clear h hh
    go_enter Try.func18, Try.ntmps18
    go_wp2_with fail
    refine HH.out.mono ?_
    rintro e w1 ⟨rfl, rfl⟩
    go_wp2_with fail
    go_ret
    exact ⟨by rw [HE.out]; rfl, by rw [HL.out]; exact H0.out, Below.refl _ _, Kp.refl _ _⟩
  | true =>
    rw [hh] at HH
    have HE : Hid (getE L id = 0) := by show _ = _; unfold getE; rw [hh]; rfl
    have HL : Hid (markL L id d = setL L id (markG d)) := by show _ = _; unfold markL; rw [if_pos hh]
    obtain ⟨k, rfl, hk, hg⟩ := has_nat' hh
    obtain ⟨g, cap, hA⟩ := h.at hk
    have hc := hA.head
    have f4 := hA.frozen (k * 10 + 8)
    have c4 := (hA.cell hk 8 (by omega)).trans (nc2 _).2.2.2.2.2.2.2.2.1
    have HT := hid (hA.turn (markG d (pg L k)) (v := .bool d) hk (j := 8) (by omega) rfl)
    have d1 : decide ((k : Int) < (L.length : Int)) = true := by simp; omega
    clear h hh hg hA
    go_enter Try.func18, Try.ntmps18
    go_wp2_with fail
    refine HH.out.mono ?_
    rintro e w1 ⟨rfl, rfl⟩
    go_wp2_with fail
    go_ret
    exact ⟨by rw [HE.out]; rfl, by rw [HL.out]; exact HT.out.1.is, HT.out.2⟩
set_option maxRecDepth 100000 in
set_option maxHeartbeats 4000000 in
theorem rdrop (B r : Nat) (L : List Pg) (id : Int) (w : World) (h : RefIs B w r L) :
    Calls Try.prog 16 #[.pointer (some ⟨r, 0, none⟩), .int .i64 id] w fun e w' => e = .returned (.int .i64 (dropE L id)) ∧ RefIs B w' r (dropL L id) ∧ Below B w w' ∧ Kp pob w w' := by
  have HH := hid (rhas B r L id w h)
  have H0 := hid h
  cases hh : has L id with
  | false =>
    rw [hh] at HH
    have he : dropE L id = 2 := by unfold dropE; rw [hh]; rfl
    have HE := hid he
    have HL : Hid (dropL L id = L) := drop_err (by rw [he]; decide)
    clear h hh he
    go_enter Try.func16, Try.ntmps16
    go_wp2_with fail
    refine HH.out.mono ?_
    rintro e w1 ⟨rfl, rfl⟩
    go_wp2_with fail
    go_ret
    exact ⟨by rw [HE.out]; rfl, by rw [HL.out]; exact H0.out, Below.refl _ _, Kp.refl _ _⟩
  | true =>
    rw [hh] at HH
    obtain ⟨k, rfl, hk, hg⟩ := has_nat' hh
    have he : dropE L k = if 0 < (pg L k).rf ∨ (pg L k).pl ≠ 0 then 4 else 0 := by unfold dropE; rw [if_pos hh]; rfl
    obtain ⟨g, cap, hA⟩ := h.at hk
    have hc := hA.head
    have c5 := (hA.cell hk 5 (by omega)).trans (nc2 _).2.2.2.2.2.1
    have c2 := (hA.cell hk 2 (by omega)).trans (nc2 _).2.2.1
    have c9 := (hA.cell hk 9 (by omega)).trans (nc2 _).2.2.2.2.2.2.2.2.2
    have f9 := hA.frozen (k * 10 + 9)
    have HT := hid (hA.turn (dropG (pg L k)) (v := .bool true) hk (j := 9) (by omega) rfl)
    have d1 : decide ((k : Int) < (L.length : Int)) = true := by simp; omega
    by_cases hr : 0 < (pg L k).rf
    · have h4 : dropE L k = 4 := by rw [he, if_pos (Or.inl hr)]
      have HE := hid h4
      have HL : Hid (dropL L k = L) := drop_err (by rw [h4]; decide)
      have d2 : decide (0 < (pg L k).rf) = true := decide_eq_true hr
      obtain ⟨x, hx⟩ : ∃ x, x = (pg L k).rf := ⟨_, rfl⟩
      rw [← hx] at c5 d2
      clear h hh hg hA he h4 hx hr HT
      go_enter Try.func16, Try.ntmps16
      go_wp2_with fail
      refine HH.out.mono ?_
      rintro e w1 ⟨rfl, rfl⟩
      go_wp2_with fail
      go_ret
      exact ⟨by rw [HE.out]; rfl, by rw [HL.out]; exact H0.out, Below.refl _ _, Kp.refl _ _⟩
    · have d2 : decide (0 < (pg L k).rf) = false := decide_eq_false hr
      by_cases hp : (pg L k).pl ≠ 0
      · have h4 : dropE L k = 4 := by rw [he, if_pos (Or.inr hp)]
        have HE := hid h4
        have HL : Hid (dropL L k = L) := drop_err (by rw [h4]; decide)
        have d3 : ((pg L k).pl != 0) = true := by simpa using hp
        obtain ⟨x, hx⟩ : ∃ x, x = (pg L k).rf := ⟨_, rfl⟩
        obtain ⟨y, hy⟩ : ∃ y, y = (pg L k).pl := ⟨_, rfl⟩
        rw [← hx] at c5 d2
        rw [← hy] at c2 d3
        clear h hh hg hA he h4 hx hy hr hp HT
        go_enter Try.func16, Try.ntmps16
        go_wp2_with fail
        refine HH.out.mono ?_
        rintro e w1 ⟨rfl, rfl⟩
        go_wp2_with fail
        go_ret
        exact ⟨by rw [HE.out]; rfl, by rw [HL.out]; exact H0.out, Below.refl _ _, Kp.refl _ _⟩
      · have h0 : dropE L k = 0 := by rw [he, if_neg (fun h => h.elim hr hp)]
        have HE := hid h0
        have HL : Hid (dropL L k = setL L k dropG) := by show _ = _; unfold dropL; rw [if_pos h0]
        have d3 : ((pg L k).pl != 0) = false := by simpa using hp
        obtain ⟨x, hx⟩ : ∃ x, x = (pg L k).rf := ⟨_, rfl⟩
        obtain ⟨y, hy⟩ : ∃ y, y = (pg L k).pl := ⟨_, rfl⟩
        rw [← hx] at c5 d2
        rw [← hy] at c2 d3
        clear h hh hg hA he h0 hx hy hr hp
        go_enter Try.func16, Try.ntmps16
        go_wp2_with fail
        refine HH.out.mono ?_
        rintro e w1 ⟨rfl, rfl⟩
        go_wp2_with fail
        go_ret
        exact ⟨by rw [HE.out]; rfl, by rw [HL.out]; exact HT.out.1.is, HT.out.2⟩
end Go.Proofs.Ytponlldgnlckfaa
