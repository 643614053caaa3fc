/-
  The document's New.
-/
import Derived.Test.YtpageadhmgoddaaR1
namespace Go.Proofs.Ytpageadhmgoddaa
open Go.RowKit

/-- Four rows that grow, and what holds them. -/
structure Four (B : Nat) (w wr : World) (r : Nat) (v1 v2 v3 v4 : Value) (l1 l2 l3 l4 : List Int) : Prop where
  row : RowAt wr r 39 [v1, v2, v3, v4]
  o1 : wr.ownsRow B 3 1 v1 l1.length (l1.map iv)
  o2 : wr.ownsRow B 3 1 v2 l2.length (l2.map iv)
  o3 : wr.ownsRow B 3 1 v3 l3.length (l3.map iv)
  o4 : wr.ownsRow B 3 1 v4 l4.length (l4.map iv)
  d12 : Dj v1 v2
  d13 : Dj v1 v3
  d14 : Dj v1 v4
  d23 : Dj v2 v3
  d24 : Dj v2 v4
  d34 : Dj v3 v4
  lo : B ≤ r
  bel : Below B w wr
section
variable {B : Nat} {w wr w3 : World} {r : Nat} {v1 v2 v3 v4 v' : Value} {l1 l2 l3 l4 : List Int} {p : Int}
theorem Four.step1 (h : Four B w wr r v1 v2 v3 v4 l1 l2 l3 l4) (ho : w3.ownsRow B 3 1 v' (l1 ++ [p]).length ((l1 ++ [p]).map iv)) (hb : Below B wr w3) (hty : Ty (fun T => T == 3) wr w3) (hg : wr.grownBy w3 v1.ownBlock) (hat : v'.ownBlock = v1.ownBlock ∨ ∀ k, v'.ownBlock = some k → wr.heap.size ≤ k) :
    w3.cell? ⟨r, 0, none⟩ = some v1 ∧ w3.frozen? ⟨r, 0, none⟩ = false ∧ Four B w (w3.setCell ⟨r, 0, none⟩ v') r v' v2 v3 v4 (l1 ++ [p]) l2 l3 l4 := by
  have hrow := h.row.ty hty rfl
  have ht : Ty (fun T => T == 39) w3 (w3.setCell ⟨r, 0, none⟩ v') := ty_set hrow rfl v'
  refine ⟨by rw [hrow.cell]; rfl, hrow.frozen 0, hrow.set 0 v', own_ty ho ht rfl, own_ty (Dj.keep h.d12 h.o2 hg) ht rfl, own_ty (Dj.keep h.d13 h.o3 hg) ht rfl, own_ty (Dj.keep h.d14 h.o4 hg) ht rfl, Dj.app h.d12 h.o2 hat, Dj.app h.d13 h.o3 hat, Dj.app h.d14 h.o4 hat, h.d23, h.d24, h.d34, h.lo, ?_⟩
  exact (h.bel.trans hb).setCell (p := ⟨r, 0, none⟩) h.lo _
theorem Four.step2 (h : Four B w wr r v1 v2 v3 v4 l1 l2 l3 l4) (ho : w3.ownsRow B 3 1 v' (l2 ++ [p]).length ((l2 ++ [p]).map iv)) (hb : Below B wr w3) (hty : Ty (fun T => T == 3) wr w3) (hg : wr.grownBy w3 v2.ownBlock) (hat : v'.ownBlock = v2.ownBlock ∨ ∀ k, v'.ownBlock = some k → wr.heap.size ≤ k) :
    w3.cell? ⟨r, 1, none⟩ = some v2 ∧ w3.frozen? ⟨r, 1, none⟩ = false ∧ Four B w (w3.setCell ⟨r, 1, none⟩ v') r v1 v' v3 v4 l1 (l2 ++ [p]) l3 l4 := by
  have hrow := h.row.ty hty rfl
  have ht : Ty (fun T => T == 39) w3 (w3.setCell ⟨r, 1, none⟩ v') := ty_set hrow rfl v'
  refine ⟨by rw [hrow.cell]; rfl, hrow.frozen 1, hrow.set 1 v', own_ty (Dj.keep h.d12.symm h.o1 hg) ht rfl, own_ty ho ht rfl, own_ty (Dj.keep h.d23 h.o3 hg) ht rfl, own_ty (Dj.keep h.d24 h.o4 hg) ht rfl, (Dj.app h.d12.symm h.o1 hat).symm, h.d13, h.d14, Dj.app h.d23 h.o3 hat, Dj.app h.d24 h.o4 hat, h.d34, h.lo, ?_⟩
  exact (h.bel.trans hb).setCell (p := ⟨r, 1, none⟩) h.lo _
theorem Four.step3 (h : Four B w wr r v1 v2 v3 v4 l1 l2 l3 l4) (ho : w3.ownsRow B 3 1 v' (l3 ++ [p]).length ((l3 ++ [p]).map iv)) (hb : Below B wr w3) (hty : Ty (fun T => T == 3) wr w3) (hg : wr.grownBy w3 v3.ownBlock) (hat : v'.ownBlock = v3.ownBlock ∨ ∀ k, v'.ownBlock = some k → wr.heap.size ≤ k) :
    w3.cell? ⟨r, 2, none⟩ = some v3 ∧ w3.frozen? ⟨r, 2, none⟩ = false ∧ Four B w (w3.setCell ⟨r, 2, none⟩ v') r v1 v2 v' v4 l1 l2 (l3 ++ [p]) l4 := by
  have hrow := h.row.ty hty rfl
  have ht : Ty (fun T => T == 39) w3 (w3.setCell ⟨r, 2, none⟩ v') := ty_set hrow rfl v'
  refine ⟨by rw [hrow.cell]; rfl, hrow.frozen 2, hrow.set 2 v', own_ty (Dj.keep h.d13.symm h.o1 hg) ht rfl, own_ty (Dj.keep h.d23.symm h.o2 hg) ht rfl, own_ty ho ht rfl, own_ty (Dj.keep h.d34 h.o4 hg) ht rfl, h.d12, (Dj.app h.d13.symm h.o1 hat).symm, h.d14, (Dj.app h.d23.symm h.o2 hat).symm, h.d24, Dj.app h.d34 h.o4 hat, h.lo, ?_⟩
  exact (h.bel.trans hb).setCell (p := ⟨r, 2, none⟩) h.lo _
theorem Four.step4 (h : Four B w wr r v1 v2 v3 v4 l1 l2 l3 l4) (ho : w3.ownsRow B 3 1 v' (l4 ++ [p]).length ((l4 ++ [p]).map iv)) (hb : Below B wr w3) (hty : Ty (fun T => T == 3) wr w3) (hg : wr.grownBy w3 v4.ownBlock) (hat : v'.ownBlock = v4.ownBlock ∨ ∀ k, v'.ownBlock = some k → wr.heap.size ≤ k) :
    w3.cell? ⟨r, 3, none⟩ = some v4 ∧ w3.frozen? ⟨r, 3, none⟩ = false ∧ Four B w (w3.setCell ⟨r, 3, none⟩ v') r v1 v2 v3 v' l1 l2 l3 (l4 ++ [p]) := by
  have hrow := h.row.ty hty rfl
  have ht : Ty (fun T => T == 39) w3 (w3.setCell ⟨r, 3, none⟩ v') := ty_set hrow rfl v'
  refine ⟨by rw [hrow.cell]; rfl, hrow.frozen 3, hrow.set 3 v', own_ty (Dj.keep h.d14.symm h.o1 hg) ht rfl, own_ty (Dj.keep h.d24.symm h.o2 hg) ht rfl, own_ty (Dj.keep h.d34.symm h.o3 hg) ht rfl, own_ty ho ht rfl, h.d12, h.d13, (Dj.app h.d14.symm h.o1 hat).symm, h.d23, (Dj.app h.d24.symm h.o2 hat).symm, (Dj.app h.d34.symm h.o3 hat).symm, h.lo, ?_⟩
  exact (h.bel.trans hb).setCell (p := ⟨r, 3, none⟩) h.lo _
end
theorem newl (j : Nat) (hj : j < 64) : newC.l j = 1099511627776 := by
  have : isG (j : Int) = true := isG_iff.2 ⟨by omega, by omega⟩
  simp [newC, this]

set_option maxRecDepth 100000 in
set_option maxHeartbeats 8000000 in
theorem rnew (w : World) : Calls Try.prog 12 #[] w fun e w' => ∃ r, e = .returned (.pointer (some ⟨r, 0, none⟩)) ∧ RefIs w.heap.size w' r newC ∧ Below w.heap.size w w' := by
  have H0 : Hid (Four w.heap.size w (w.alloc (.cells #[.slice none 0 0, .slice none 0 0, .slice none 0 0, .slice none 0 0] 39)) w.heap.size (.slice none 0 0) (.slice none 0 0) (.slice none 0 0) (.slice none 0 0) (rw64 newC.u 0) (rw64 newC.l 0) (rw64 newC.f 0) (rw64 newC.p 0)) :=
    ⟨RowAt.new w _ 39, World.ownsRow_nil _ _ _ _, World.ownsRow_nil _ _ _ _, World.ownsRow_nil _ _ _ _, World.ownsRow_nil _ _ _ _, dj_nil _, dj_nil _, dj_nil _, dj_nil _, dj_nil _, dj_nil _, Nat.le_refl _, below_alloc _ _⟩
  go_enter Try.func12, Try.ntmps12
  go_wp2_with fail
  go_loopw [2] (fun s2 wr => ∃ (j : Nat) (v1 v2 v3 v4 : Value), j ≤ 64 ∧ s2 = .int .i64 j ∧ Four w.heap.size w wr w.heap.size v1 v2 v3 v4 (rw64 newC.u j) (rw64 newC.l j) (rw64 newC.f j) (rw64 newC.p j)) (fun s2 _ => 64 - (intOf s2).toNat)
  case atStart => exact ⟨0, _, _, _, _, by omega, rfl, H0.out⟩
  case round =>
    obtain ⟨j, v1, v2, v3, v4, hj, rfl, h⟩ := hrel
    clear H0
    by_cases hjl : j < 64
    · have hjd : decide ((j : Int) < 64) = true := by simp; omega
      have T1 : Hid (rw64 newC.u (j + 1) = rw64 newC.u j ++ [0]) := rw64_succ _ _
      have T2 : Hid (rw64 newC.l (j + 1) = rw64 newC.l j ++ [1099511627776]) := by
        show _ = _
        rw [rw64_succ, newl j hjl]
      have T3 : Hid (rw64 newC.f (j + 1) = rw64 newC.f j ++ [0]) := rw64_succ _ _
      have T4 : Hid (rw64 newC.p (j + 1) = rw64 newC.p j ++ [0]) := rw64_succ _ _
      have hl1 : (rw64 newC.u j).length ≤ 1000000 := by rw [rw64_len]; omega
      have hl2 : (rw64 newC.l j).length ≤ 1000000 := by rw [rw64_len]; omega
      have hl3 : (rw64 newC.f j).length ≤ 1000000 := by rw [rw64_len]; omega
      have hl4 : (rw64 newC.p j).length ≤ 1000000 := by rw [rw64_len]; omega
      obtain ⟨l1, hl1'⟩ : ∃ l, l = rw64 newC.u j := ⟨_, rfl⟩
      obtain ⟨l2, hl2'⟩ : ∃ l, l = rw64 newC.l j := ⟨_, rfl⟩
      obtain ⟨l3, hl3'⟩ : ∃ l, l = rw64 newC.f j := ⟨_, rfl⟩
      obtain ⟨l4, hl4'⟩ : ∃ l, l = rw64 newC.p j := ⟨_, rfl⟩
      rw [← hl1'] at T1 hl1 h
      rw [← hl2'] at T2 hl2 h
      rw [← hl3'] at T3 hl3 h
      rw [← hl4'] at T4 hl4 h
      clear hl1' hl2' hl3' hl4'
      have q1 : wr.cell? ⟨w.heap.size, 0, none⟩ = some v1 := by rw [h.row.cell]; rfl
      have hB1 := h.bel.size
      go_upto_region 6 with (at_builtin; refine app_up w.heap.size l1 _ rfl _ _ rfl v1 rfl h.o1 0 rfl hl1 hB1 ?_; intro v' w3 ho hb hty hg hat; obtain ⟨a', cap', rfl, -⟩ := own_form ho; obtain ⟨q5, f5, h5⟩ := h.step1 ho hb hty hg hat)
      have hn : (l1 ++ [(0 : Int)]).length = l1.length + 1 := by simp
      rw [hn] at h5
      obtain ⟨W1, hW⟩ : ∃ W, W = w3.setCell ⟨w.heap.size, 0, none⟩ (.slice a' (l1.length + 1) cap') := ⟨_, rfl⟩
      rw [← hW] at h5
      have hW' : Hid (w3.setCell ⟨w.heap.size, 0, none⟩ (.slice a' (l1.length + 1) cap') = W1) := hW.symm
      rw [hW'.out]
      clear hW hW' hn ho hb hty hg hat q5 f5 h q1 hB1
      have h := h5
      clear h5
      have q2 : W1.cell? ⟨w.heap.size, 1, none⟩ = some v2 := by rw [h.row.cell]; rfl
      have hB2 := h.bel.size
      go_upto_region 7 with (at_builtin; refine app_up w.heap.size l2 _ rfl _ _ rfl v2 rfl h.o2 1099511627776 rfl hl2 hB2 ?_; intro v' w3 ho hb hty hg hat; obtain ⟨a', cap', rfl, -⟩ := own_form ho; obtain ⟨q5, f5, h5⟩ := h.step2 ho hb hty hg hat)
      have hn : (l2 ++ [(1099511627776 : Int)]).length = l2.length + 1 := by simp
      rw [hn] at h5
      obtain ⟨W2, hW⟩ : ∃ W, W = w3.setCell ⟨w.heap.size, 1, none⟩ (.slice a' (l2.length + 1) cap') := ⟨_, rfl⟩
      rw [← hW] at h5
      have hW' : Hid (w3.setCell ⟨w.heap.size, 1, none⟩ (.slice a' (l2.length + 1) cap') = W2) := hW.symm
      rw [hW'.out]
      clear hW hW' hn ho hb hty hg hat q5 f5 h q2 hB2
      have h := h5
      clear h5
      have q3 : W2.cell? ⟨w.heap.size, 2, none⟩ = some v3 := by rw [h.row.cell]; rfl
      have hB3 := h.bel.size
      go_upto_region 8 with (at_builtin; refine app_up w.heap.size l3 _ rfl _ _ rfl v3 rfl h.o3 0 rfl hl3 hB3 ?_; intro v' w3 ho hb hty hg hat; obtain ⟨a', cap', rfl, -⟩ := own_form ho; obtain ⟨q5, f5, h5⟩ := h.step3 ho hb hty hg hat)
      have hn : (l3 ++ [(0 : Int)]).length = l3.length + 1 := by simp
      rw [hn] at h5
      obtain ⟨W3, hW⟩ : ∃ W, W = w3.setCell ⟨w.heap.size, 2, none⟩ (.slice a' (l3.length + 1) cap') := ⟨_, rfl⟩
      rw [← hW] at h5
      have hW' : Hid (w3.setCell ⟨w.heap.size, 2, none⟩ (.slice a' (l3.length + 1) cap') = W3) := hW.symm
      rw [hW'.out]
      clear hW hW' hn ho hb hty hg hat q5 f5 h q3 hB3
      have h := h5
      clear h5
      have q4 : W3.cell? ⟨w.heap.size, 3, none⟩ = some v4 := by rw [h.row.cell]; rfl
      have hB4 := h.bel.size
      go_wp2_with (at_builtin; refine app_up w.heap.size l4 _ rfl _ _ rfl v4 rfl h.o4 0 rfl hl4 hB4 ?_; intro v' w3 ho hb hty hg hat; obtain ⟨a', cap', rfl, -⟩ := own_form ho; obtain ⟨q5, f5, h5⟩ := h.step4 ho hb hty hg hat)
      have hn : (l4 ++ [(0 : Int)]).length = l4.length + 1 := by simp
      rw [hn] at h5
      rw [← T1.out, ← T2.out, ← T3.out, ← T4.out] at h5
      exact ⟨⟨j + 1, _, _, _, _, by omega, by go_num, h5⟩, by simp [intOf]; omega⟩
    · obtain rfl : j = 64 := by omega
      have hjd : decide (((64 : Nat) : Int) < 64) = false := by simp
      go_wp2_with fail
      go_ret
      obtain ⟨g1, c1, rfl, -⟩ := own_cell h.o1
      obtain ⟨g2, c2, rfl, -⟩ := own_cell h.o2
      obtain ⟨g3, c3, rfl, -⟩ := own_cell h.o3
      obtain ⟨g4, c4, rfl, -⟩ := own_cell h.o4
      have ne : ∀ (x y c c' : Nat), Dj (.slice (some ⟨x, 0, none⟩) 64 c) (.slice (some ⟨y, 0, none⟩) 64 c') → x ≠ y := fun x y c c' hd e => hd x rfl (by rw [e]; rfl)
      have o1 := h.o1
      have o2 := h.o2
      have o3 := h.o3
      have o4 := h.o4
      rw [rw64_len] at o1 o2 o3 o4
      exact ⟨_, rfl, ⟨g1, c1, g2, c2, g3, c3, g4, c4, h.row, o1, o2, o3, o4, ne _ _ _ _ h.d12, ne _ _ _ _ h.d13, ne _ _ _ _ h.d14, ne _ _ _ _ h.d23, ne _ _ _ _ h.d24, ne _ _ _ _ h.d34, h.lo⟩, h.bel⟩
end Go.Proofs.Ytpageadhmgoddaa
