/-
  The document's example.
-/
import Derived.Test.YtponlldgnlckfaaDo
namespace Go.Proofs.Ytponlldgnlckfaa
open Go.RowKit

/-- The table of the example, step by step. -/
def x1 : Pg := ⟨1, 2, 0, 0, 3, 0, false, false⟩
def x2 : Pg := ⟨1, 2, 1, 5, 3, 0, false, false⟩
def x3 : Pg := ⟨1, 2, 1, 5, 3, 2, false, false⟩
def x4 : Pg := ⟨1, 2, 1, 5, 4, 2, false, false⟩
theorem wk1 : makeL [] 1 2 3 = [x1] ∧ makeR [] 1 2 = 0 ∧ makeE [] 1 2 = 0 := ⟨rfl, rfl, rfl⟩
theorem wk2 : putL [x1] 0 1 5 = [x2] ∧ putE [x1] 0 1 5 = 0 := ⟨rfl, rfl⟩
theorem wk3 : getL [x2] 0 = x2 ∧ getE [x2] 0 = 0 := ⟨rfl, rfl⟩
theorem wk4 : refL [x2] 0 2 = [x3] ∧ refN [x2] 0 2 = 2 ∧ refE [x2] 0 2 = 0 := ⟨rfl, rfl, rfl⟩
theorem wk5 : (idsL [x3] (anyP false 3)).length = 1 ∧ ofL [x3] 1 2 = 0 ∧ atL [x3] 1 5 = 0 ∧ (idsL [x3] (anyP true 0)).length = 1 := ⟨rfl, rfl, rfl, rfl⟩
theorem wk6 : dropL [x3] 0 = [x3] ∧ dropE [x3] 0 = 4 := ⟨rfl, rfl⟩
theorem wk7 : ownL [x3] 0 4 = [x4] ∧ getE [x3] 0 = 0 := ⟨rfl, rfl⟩
theorem wk8 : getE [x4] 0 = 0 := rfl
theorem wf_small {i : Int} (h : -1000000000 ≤ i ∧ i ≤ 1000000000) : (Lit.int .i64 i).wf = true := WalkArith.wf_i64 (by omega)

section
variable {Tb : World → World → Nat → (Nat → Prop) → List Pg → Prop}
set_option maxRecDepth 100000 in
set_option maxHeartbeats 8000000 in
theorem works_any (I : TbI Tb) (w : World) : Calls Try.prog 10 #[] w fun e w' => e = .returned (.bool true) ∧ Below w.heap.size w w' := by
  have O1 : Ok 1000 [x1] := by
    have := ok_make Ok.nil (Int.le_refl _) 1 2 3
    rw [wk1.1] at this
    exact this.more (by omega)
  have O2 : Ok 1000 [x2] := by
    have := ok_put O1 0 1 5
    rw [wk2.1] at this
    exact this
  have O3 : Ok 2000 [x3] := by
    have := ok_ref O2 0 2
    rw [wk4.1] at this
    exact this
  have O4 : Ok 2000 [x4] := by
    have := ok_own O3 0 4
    rw [wk7.1] at this
    exact this
  go_enter Try.func10, Try.ntmps10
  go_wp2_with fail
  refine (I.new (Below.refl _ w)).mono ?_
  rintro e w1 ⟨t, S1, rfl, h1, -⟩
  have hb1 := below_alloc w1 (.cells #[.int .i64 1, .int .i64 2] 24)
  have hk1 := RowAt.new w1 #[.int .i64 1, .int .i64 2] 24
  have h2 := I.later h1 hb1
  have hn2 : ¬ S1 w1.heap.size := fun hs => by have := I.lt h1 hs; omega
  obtain ⟨w2, hw2⟩ : ∃ w2, w2 = w1.alloc (.cells #[.int .i64 1, .int .i64 2] 24) := ⟨_, rfl⟩
  rw [← hw2] at hb1 hk1 h2
  obtain ⟨q, hq⟩ : ∃ q, q = w1.heap.size := ⟨_, rfl⟩
  rw [← hq] at hk1 hn2
  have HQ := hid hq
  have HW2 := hid hw2
  have H2 := hid h2
  have HK := hid hk1
  have HN2 := hid hn2
  clear hq hw2 h2 hk1 h1 hb1 hn2
  go_wp2_with fail
  rw [← HW2.out, ← HQ.out]
  refine (I.make H2.out Ok.nil (by omega) (by decide) (wf_small (by omega)) (wf_small (by omega)) (wf_small (by omega))).mono ?_
  rintro e w3 ⟨rfl, S3, h3, o3, l3⟩
  rw [wk1.2.1, wk1.2.2]
  rw [wk1.1] at h3
  have k3 := o3.row HK.out HN2.out
  have n3 : ¬ S3 q := fun hs => (l3 q hs).elim HN2.out (fun h => by have := HK.out.lt; omega)
  have H3 := hid h3
  have K3 := hid k3
  have N3 := hid n3
  clear h3 o3 l3 k3 n3 H2 HK HN2 HW2 HQ
  go_wp2_with fail
  refine (I.put H3.out O1 (by omega) (by decide) (wf_small (by omega)) (wf_small (by omega)) (wf_small (by omega))).mono ?_
  rintro e w4 ⟨rfl, S4, h4, o4, l4⟩
  rw [wk2.2]
  rw [wk2.1] at h4
  have k4 := o4.row K3.out N3.out
  have n4 : ¬ S4 q := fun hs => (l4 q hs).elim N3.out (fun h => by have := K3.out.lt; omega)
  have H4 := hid h4
  have K4 := hid k4
  have N4 := hid n4
  clear h4 o4 l4 k4 n4 H3 K3 N3
  go_wp2_with fail
  refine (I.get H4.out (wf_small (by omega))).mono ?_
  rintro e w5 ⟨rfl, hb5⟩
  rw [wk3.1, wk3.2]
  have hp6 := RowAt.new w5 (pc x2) 45
  have hb6 := hb5.trans ((below_alloc w5 (.cells (pc x2) 45)).mono hb5.size)
  have h6 := I.later H4.out hb6
  have k6 := K4.out.below hb6 K4.out.lt
  have n6 : ¬ S4 w5.heap.size := fun hs => by have := I.lt (I.later H4.out hb5) hs; omega
  obtain ⟨w6, hw6⟩ : ∃ w6, w6 = w5.alloc (.cells (pc x2) 45) := ⟨_, rfl⟩
  rw [← hw6] at hp6 h6 k6
  obtain ⟨q6, hq6⟩ : ∃ q6, q6 = w5.heap.size := ⟨_, rfl⟩
  rw [← hq6] at hp6 n6
  have HW6 := hid hw6
  have HQ6 := hid hq6
  have H6 := hid h6
  have K6 := hid k6
  have P6 := hid hp6
  have N6 := hid n6
  have hpv : pv x2 = .agg #[.int .i64 1, .int .i64 2, .int .i64 1, .int .i64 5, .int .i64 3, .int .i64 0, .int .i64 0, .bool false, .bool false] := rfl
  rw [hpv]
  clear hb5 hb6 hw6 hq6 h6 k6 hp6 n6 hpv H4 K4
  go_wp2_with fail
  have e6 : w5.alloc (.cells #[.int .i64 1, .int .i64 2, .int .i64 1, .int .i64 5, .int .i64 3, .int .i64 0, .int .i64 0, .bool false, .bool false] 45) = w6 := HW6.out.symm
  rw [e6, ← HQ6.out]
  refine (I.ref H6.out O2 (by omega) (by decide) (wf_small (by omega)) (wf_small (by omega))).mono ?_
  rintro e w7 ⟨rfl, S7, h7, o7, l7⟩
  rw [wk4.2.1, wk4.2.2]
  rw [wk4.1] at h7
  have k7 := o7.row K6.out N4.out
  have p7 := o7.row P6.out N6.out
  have H7 := hid h7
  have K7 := hid k7
  have P7 := hid p7
  clear h7 o7 l7 k7 p7 H6 K6 P6 HW6 HQ6 e6 N4 N6
  go_wp2_with fail
  refine (I.those H7.out (by decide) (wf_small (by omega))).mono ?_
  rintro e w8 ⟨a8, c8, rfl, -, -, hb8⟩
  rw [wk5.1]
  have h8 := I.later H7.out hb8
  have k8 := K7.out.below hb8 K7.out.lt
  have p8 := P7.out.below hb8 P7.out.lt
  have c0 : w8.cell? ⟨q, 0, none⟩ = some (.int .i64 1) := by rw [k8.cell]; rfl
  have c1 : w8.cell? ⟨q, 1, none⟩ = some (.int .i64 2) := by rw [k8.cell]; rfl
  have H8 := hid h8
  have P8 := hid p8
  clear h8 hb8 k8 p8 H7 K7 P7
  go_wp2_with fail
  refine (I.of H8.out (wf_small (by omega)) (wf_small (by omega))).mono ?_
  rintro e w9 ⟨rfl, hb9⟩
  rw [wk5.2.1]
  have h9 := I.later H8.out hb9
  have p9 := P8.out.below hb9 P8.out.lt
  have H9 := hid h9
  have P9 := hid p9
  clear h9 hb9 p9 H8 P8 c0 c1
  go_wp2_with fail
  refine (I.att H9.out (wf_small (by omega)) (wf_small (by omega))).mono ?_
  rintro e w10 ⟨rfl, hb10⟩
  rw [wk5.2.2.1]
  have h10 := I.later H9.out hb10
  have p10 := P9.out.below hb10 P9.out.lt
  have c3 : w10.cell? ⟨q6, 3, none⟩ = some (.int .i64 5) := by rw [p10.cell]; rfl
  have H10 := hid h10
  clear h10 hb10 p10 H9 P9
  go_wp2_with fail
  refine (I.all H10.out (by decide)).mono ?_
  rintro e w11 ⟨a11, c11, rfl, -, -, hb11⟩
  rw [wk5.2.2.2]
  have H11 := hid (I.later H10.out hb11)
  clear hb11 H10 c3
  go_wp2_with fail
  refine (I.drop H11.out O3 (by omega) (by decide) (wf_small (by omega))).mono ?_
  rintro e w12 ⟨rfl, S12, h12, -, -⟩
  rw [wk6.2]
  rw [wk6.1] at h12
  have H12 := hid h12
  clear h12 H11
  go_wp2_with fail
  refine (I.own H12.out O3 (by omega) (by decide) (wf_small (by omega)) (wf_small (by omega))).mono ?_
  rintro e w13 ⟨rfl, S13, h13, -, -⟩
  rw [wk7.2]
  rw [wk7.1] at h13
  have H13 := hid h13
  clear h13 H12
  go_wp2_with fail
  refine (I.mark H13.out O4 (by omega) (by decide) (wf_small (by omega))).mono ?_
  rintro e w14 ⟨rfl, S14, h14, -, -⟩
  rw [wk8]
  have HB := hid (I.bel h14)
  clear h14 H13
  go_wp2_with fail
  go_ret
  exact ⟨rfl, HB.out⟩
end
end Go.Proofs.Ytponlldgnlckfaa
