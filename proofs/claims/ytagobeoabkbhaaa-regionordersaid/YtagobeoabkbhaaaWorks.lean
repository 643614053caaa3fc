/-
  The document's example holds.
-/
import Derived.Test.YtagobeoabkbhaaaP13
namespace Go.Proofs.Ytagobeoabkbhaaa
open Go.RowKit

def exX : Rg := ⟨0, 9, 2, 2, 4, false⟩
def exA : Rg := ⟨0, 3, 2, 2, 4, false⟩
def exB : Rg := ⟨5, 9, 2, 2, 9, false⟩
theorem ex_add : addR [] exX = [exX] ∧ addE [] exX = 0 := ⟨rfl, rfl⟩
theorem ex_cut : cutR [exX] 3 5 = [exA, exB] := by kernel_rfl
theorem ex_find : fnd [exA, exB] 6 = some exB := rfl
theorem ex_pages : pgR [exA, exB] = 7 := rfl
theorem ex_valid : vd exX = true := rfl
theorem ex_right : rt 0 [exA, exB] = true := rfl
theorem ex_key : kF exB = 2 ∧ kI exB 6 = 10 := ⟨rfl, by kernel_rfl⟩

set_option maxRecDepth 100000 in
set_option maxHeartbeats 4000000 in
theorem works (w : World) : Calls Try.prog 10 #[] w fun e w' => e = .returned (.bool true) ∧ Below w.heap.size w w' := by
  have H1 : Hid (∀ w, Calls Try.prog 11 #[.slice none 0 0, .agg #[.int .i64 0, .int .i64 9, .int .i64 2, .int .i64 2, .int .i64 4, .bool false]] w fun e w' => ∃ a c, e = .returned (.tuple #[.slice a 1 c, .int .i64 0]) ∧ Regs w' a c [exX] ∧ Below w.heap.size w w') := by
    intro w
    refine (padd none 0 [] exX w (Regs.emp fun _ => rfl) (by simp)).mono ?_
    rintro e w' ⟨a, c, N, rfl, he, hr, hb⟩
    rw [ex_add.1, ex_add.2] at he
    rw [ex_add.1] at hr
    exact ⟨a, c, he, hr, hb⟩
  have H2 : Hid (∀ w a c, Regs w a c [exX] → Calls Try.prog 24 #[.slice a 1 c, .int .i64 3, .int .i64 5] w fun e w' => ∃ a c, e = .returned (.slice a 2 c) ∧ Regs w' a c [exA, exB] ∧ Below w.heap.size w w') := by
    intro w a c h
    refine (pcut a c [exX] 3 5 w h (by simp)).mono ?_
    rintro e w' ⟨a, c, N, rfl, he, hr, hb⟩
    rw [ex_cut] at he hr
    exact ⟨a, c, he, hr, hb⟩
  have H3 : Hid (∀ w a c, Regs w a c [exA, exB] → Calls Try.prog 13 #[.slice a 2 c, .int .i64 6] w fun e w' => e = .returned (.tuple #[.agg #[.int .i64 5, .int .i64 9, .int .i64 2, .int .i64 2, .int .i64 9, .bool false], .bool true]) ∧ Below w.heap.size w w') := by
    intro w a c h
    have := pfind a c [exA, exB] 6 w h (by simp)
    rw [ex_find] at this
    exact this
  have H4 : Hid (∀ w a c, Regs w a c [exA, exB] → Calls Try.prog 20 #[.slice a 2 c] w fun e w' => e = .returned (.int .i64 7) ∧ Below w.heap.size w w') := by
    intro w a c h
    have := ppages a c [exA, exB] w h (by simp)
    rw [ex_pages] at this
    exact this
  have H5 : Hid (∀ w, Calls Try.prog 17 #[.agg #[.int .i64 0, .int .i64 9, .int .i64 2, .int .i64 2, .int .i64 4, .bool false]] w fun e w' => e = .returned (.bool true) ∧ Below w.heap.size w w') := by
    intro w
    have := pvalid exX w
    rw [ex_valid] at this
    exact this
  have H6 : Hid (∀ w a c, Regs w a c [exA, exB] → Calls Try.prog 19 #[.slice a 2 c] w fun e w' => e = .returned (.bool true) ∧ Below w.heap.size w w') := by
    intro w a c h
    have := pright a c [exA, exB] w h (by simp)
    rw [ex_right] at this
    exact this
  have H7 : Hid (∀ w, Calls Try.prog 22 #[.agg #[.int .i64 5, .int .i64 9, .int .i64 2, .int .i64 2, .int .i64 9, .bool false], .int .i64 6] w fun e w' => e = .returned (.agg #[.int .i64 2, .int .i64 10]) ∧ Below w.heap.size w w') := by
    intro w
    have := pkey exB 6 w
    rw [ex_key.1, ex_key.2] at this
    exact this
  have e25 := eq25 exB exB
  rw [eqR_same] at e25
  simp only [exB] at e25
  have e37 := eq37 2 10 2 10
  have HC : Hid (∀ w a c, Regs w a c [exA, exB] → ∃ b off, a = some ⟨b, off, none⟩ ∧ w.cell? ⟨b, off + 1, none⟩ = some (.int .i64 3) ∧ w.cell? ⟨b, off + 4, none⟩ = some (.int .i64 4) ∧ w.cell? ⟨b, off + 6, none⟩ = some (.int .i64 5) ∧ w.cell? ⟨b, off + 6 + 1, none⟩ = some (.int .i64 9) ∧ w.cell? ⟨b, off + 6 + 2, none⟩ = some (.int .i64 2) ∧ w.cell? ⟨b, off + 6 + 3, none⟩ = some (.int .i64 2) ∧ w.cell? ⟨b, off + 6 + 4, none⟩ = some (.int .i64 9) ∧ w.cell? ⟨b, off + 6 + 5, none⟩ = some (.bool false)) := by
    intro w a c h
    obtain ⟨b, off, rfl, -⟩ := h.get (j := 0) (by simp)
    have h0 := h.cells (j := 0) (by simp)
    have h1 := h.cells (j := 1) (by simp)
    simp only [Nat.zero_mul, Nat.one_mul, Nat.add_zero] at h0 h1
    exact ⟨b, off, rfl, h0.2.1, h0.2.2.2.2.1, h1⟩
  obtain ⟨w0, hw0, hr0, hB0, hb0⟩ := boxOn w w exX (Below.refl _ _)
  simp only [exX] at hw0
  go_enter Try.func10, Try.ntmps10
  go_wp2_with fail
  rw [← hw0]
  refine (H1.out _).mono ?_
  rintro e w1 ⟨a1, c1, rfl, hr1, hb1⟩
  have hx1 := hr0.later hb1
  have hB1 := bel_trans hB0 hb1
  clear hr0 hB0 hb0 hb1 hw0
  go_wp2_with fail
  refine (H2.out _ _ _ hr1).mono ?_
  rintro e w2 ⟨a2, c2, rfl, hr2, hb2⟩
  have hx2 := hx1.later hb2
  have hB2 := bel_trans hB1 hb2
  clear hx1 hB1 hr1 hb2
  go_wp2_with fail
  refine (H3.out _ _ _ hr2).mono ?_
  rintro e w3 ⟨rfl, hb3⟩
  have hx3 := hx2.later hb3
  have hB3 := bel_trans hB2 hb3
  have hr3 := hr2.later hb3
  clear hx2 hB2 hr2 hb3
  obtain ⟨w4, hw4, hy4, hB4, hb4⟩ := boxOn w w3 exB hB3
  simp only [exB] at hw4
  have hr4 := hr3.later hb4
  have hx4 := hx3.later hb4
  obtain ⟨b, off, rfl, c0, c1, c2, c3, c4, c5, c6, c7⟩ := HC.out _ _ _ hr4
  obtain ⟨y0, y1, y2, y3, y4, y5⟩ := hy4.six
  simp only [exB] at y0 y1 y2 y3 y4 y5
  clear hx3 hB3 hr3 hb4
  go_wp2_with fail
  rw [← hw4]
  clear hw4
  obtain ⟨x0, x1, x2, x3, x4, x5⟩ := hx4.six
  simp only [exX] at x0 x1 x2 x3 x4 x5
  have l0 := Up.cell c0
  have l1 := Up.cell c1
  have l2 := Up.cell c2
  have l3 := Up.cell c3
  have l4 := Up.cell c4
  have l5 := Up.cell c5
  have l6 := Up.cell c6
  have l7 := Up.cell c7
  have m0 := Up.cell y0
  have m1 := Up.cell y1
  have m2 := Up.cell y2
  have m3 := Up.cell y3
  have m4 := Up.cell y4
  have m5 := Up.cell y5
  have n0 := Up.cell x0
  have n1 := Up.cell x1
  have n2 := Up.cell x2
  have n3 := Up.cell x3
  have n4 := Up.cell x4
  have n5 := Up.cell x5
  have hne := Up.any w4
  refine wp_region_up (by kernel_rfl) (by kernel_rfl) ?_
  simp only [List.append]
  repeat (go_big_quiet_step (first | (go_at_call 20; refine Up.call (H4.out _ _ _ (hr4.later (Up.h _)))) | (go_at_call 17; refine Up.call (H5.out _)) | (go_at_call 19; refine Up.call (H6.out _ _ _ (hr4.later (Up.h _)))) | (go_at_call 22; refine Up.call (H7.out _))))
  refine wpQuiet_nil ?_
  intro _ hw'
  obtain ⟨⟨w5, hbw⟩, rfl⟩ := hw'
  go_wp2
  go_ret
  exact ⟨rfl, bel_trans hB4 hbw⟩
end Go.Proofs.Ytagobeoabkbhaaa
