/-
  RegionCuts, walked.
-/
import Derived.Test.YtagobeoabkbhaaaLAdds
namespace Go.Proofs.Ytagobeoabkbhaaa
open Go.RowKit

theorem cutR_len (L : List Rg) (f t : Int) : (cutR L f t).length ≤ 2 * L.length := by
  unfold cutR
  split
  · exact cutL_length L f t
  · simp

set_option maxRecDepth 100000 in
set_option maxHeartbeats 8000000 in
theorem cuts_walk (a : Option Addr) (cap : Nat) (L : List Rg) (f t : Int) (w : World) (h : ListIn w a cap L) :
    Calls Try.prog 4 #[.slice a L.length cap, .int .i64 f, .int .i64 t] w fun e w' => e = .returned (.bool true) ∧ Below w.heap.size w w' := by
  obtain ⟨hreg, -⟩ := h
  by_cases h80 : 80 < L.length
  · have q : decide (80 < L.length) = true := by simp; omega
    go_enter Try.func4, Try.ntmps4
    go_wp2_with fail
    refine (works _).mono ?_
    rintro e w1 ⟨rfl, hb1⟩
    go_wp2
    go_ret
    exact ⟨rfl, hb1⟩
  · have q : decide (80 < L.length) = false := by simp; omega
    have hL : L.length ≤ 1000 := by omega
    obtain ⟨R, hR⟩ : ∃ R, cutR L f t = R := ⟨_, rfl⟩
    have HRL : Hid (R.length ≤ 1000) := by show _ ≤ _; rw [← hR]; have := cutR_len L f t; omega
    have H24 : Hid (∀ w, Regs w a cap L → Calls Try.prog 24 #[.slice a L.length cap, .int .i64 f, .int .i64 t] w fun e w' => ∃ a c, e = .returned (.slice a R.length c) ∧ Regs w' a c R ∧ Below w.heap.size w w') := fun w h => cutOut hR (pcut a cap L f t w h hL)
    have H25 : Hid (∀ w, Regs w a cap L → Calls Try.prog 25 #[.slice a L.length cap, .int .i64 f, .int .i64 t] w fun e w' => ∃ a c, e = .returned (.slice a R.length c) ∧ Regs w' a c R ∧ Below w.heap.size w w') := fun w h => cutOut hR (rcut a cap L f t w h hL)
    have H15 : Hid (∀ w a b ca cb, Regs w a ca R → Regs w b cb R → Calls Try.prog 15 #[.slice a R.length ca, .slice b R.length cb] w fun e w' => e = .returned (.bool true) ∧ Below w.heap.size w w') := by
      intro w a b ca cb h1 h2
      have := rsame a b ca cb R R w h1 h2 HRL.out
      rw [sameL_same] at this
      exact this
    clear hR
    go_enter Try.func4, Try.ntmps4
    go_wp2_with fail
    refine (works _).mono ?_
    rintro e w1 ⟨rfl, hB1⟩
    go_wp2_with fail
    refine (H24.out _ (hreg.later hB1)).mono ?_
    rintro e w2 ⟨a2, c2, rfl, hr2, hb2⟩
    have hB2 := bel_trans hB1 hb2
    clear hB1 hb2
    go_wp2_with fail
    refine (H25.out _ (hreg.later hB2)).mono ?_
    rintro e w3 ⟨a3, c3, rfl, hr3, hb3⟩
    have hB3 := bel_trans hB2 hb3
    have hr23 := hr2.later hb3
    clear hB2 hb3 hr2
    go_wp2_with fail
    refine (H15.out _ _ _ _ _ hr23 hr3).mono ?_
    rintro e w4 ⟨rfl, hb4⟩
    go_wp2
    go_ret
    exact ⟨rfl, bel_trans hB3 hb4⟩
end Go.Proofs.Ytagobeoabkbhaaa
