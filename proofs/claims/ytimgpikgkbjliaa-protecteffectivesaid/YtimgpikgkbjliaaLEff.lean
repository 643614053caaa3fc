/-
  ProtectEffective, walked.
-/
import Derived.Test.YtimgpikgkbjliaaWorks
import Derived.Test.YtimgpikgkbjliaaOpen
import Derived.Test.YtimgpikgkbjliaaR3
import Derived.Test.YtimgpikgkbjliaaR4
namespace Go.Proofs.Ytimgpikgkbjliaa
open Go.RowKit

theorem effL_le (L : List Nd) (t : Int) : (effL L t).length ≤ L.length := by
  unfold effL
  split
  · rw [efN_len]; exact Nat.le_refl _
  · simp

set_option maxRecDepth 100000 in
set_option maxHeartbeats 8000000 in
theorem effective_walk (a : Option Addr) (cap : Nat) (G : List Nd) (t : Int) (w : World) (h : ListIn w a cap G) :
    Calls Try.prog 3 #[.slice a G.length cap, .int .i64 t] w fun e w' => e = .returned (.bool true) ∧ Below w.heap.size w w' := by
  obtain ⟨hn, hle⟩ := h
  have HW := (show Hid (∀ w, Calls Try.prog 9 #[] w fun e w' => e = .returned (.bool true) ∧ Below w.heap.size w w') from works)
  by_cases h70 : 70 < G.length
  · have hd : decide (70 < G.length) = true := by simpa using h70
    go_enter Try.func3, Try.ntmps3
    go_wp2_with fail
    refine (HW.out _).mono ?_
    rintro e w1 ⟨rfl, hb1⟩
    go_wp2
    go_ret
    exact ⟨rfl, hb1⟩
  have d70 : decide (70 < G.length) = false := by simpa using h70
  have HG : Hid (∀ w', Below w.heap.size w w' → Nds w' a cap G) := fun w' hb => hn.later hb
  obtain ⟨E, hEe⟩ : ∃ E, effL G t = E := ⟨_, rfl⟩
  have hEl : E.length ≤ 70 := by have := effL_le G t; rw [hEe] at this; omega
  obtain ⟨V, hV⟩ : ∃ V, vd G = V := ⟨_, rfl⟩
  have H11 : Hid (∀ w', Nds w' a cap G → Calls Try.prog 11 #[.slice a G.length cap, .int .i64 t] w' fun e w'' => ∃ a' c', e = .returned (.slice a' E.length c') ∧ Ints w'' a' E ∧ Below w'.heap.size w' w'') := by
    intro w' h
    have := peff a cap G t w' h (by omega)
    rw [hEe] at this
    exact this
  have H12 : Hid (∀ w' a c, Nds w' a c G → Calls Try.prog 12 #[.slice a G.length c, .int .i64 t] w' fun e w'' => ∃ a' c', e = .returned (.slice a' E.length c') ∧ Ints w'' a' E ∧ Below w'.heap.size w' w'') := by
    intro w' a c h
    have := reff a c G t w' h (by omega)
    rw [hEe] at this
    exact this
  have H13 : Hid (∀ w', Nds w' a cap G → Calls Try.prog 13 #[.slice a G.length cap] w' fun e w'' => ∃ a' c', e = .returned (.slice a' G.length c') ∧ Nds w'' a' c' G ∧ Below w'.heap.size w' w'') := fun w' h => rof a cap G w' h (by omega)
  have H10 : Hid (∀ w' a b ca cb, Ints w' a E → Ints w' b E → Calls Try.prog 10 #[.slice a E.length ca, .slice b E.length cb] w' fun e w'' => e = .returned (.bool true) ∧ Below w'.heap.size w' w'') := fun w' a b ca cb h1 h2 => prow a b ca cb E w' h1 h2 (by omega)
  have H14 : Hid (∀ w', Nds w' a cap G → Calls Try.prog 14 #[.slice a G.length cap] w' fun e w'' => e = .returned (.bool V) ∧ Below w'.heap.size w' w'') := by
    intro w' h
    have := pvalid a cap G w' h (by omega)
    rw [hV] at this
    exact this
  have H15 : Hid (∀ w' a c, Nds w' a c G → Calls Try.prog 15 #[.slice a G.length c] w' fun e w'' => e = .returned (.bool V) ∧ Below w'.heap.size w' w'') := by
    intro w' a c h
    have := rvalid a c G w' h (by omega)
    rw [hV] at this
    exact this
  have hVV : (V == V) = true := by simp
  clear hEe hEl hV hn
  go_enter Try.func3, Try.ntmps3
  go_wp2_with fail
  refine (HW.out _).mono ?_
  rintro e w1 ⟨rfl, hb1⟩
  go_wp2_with fail
  refine (H11.out _ (HG.out _ hb1)).mono ?_
  rintro e w2 ⟨a2, c2, rfl, hi2, hb2⟩
  have hB2 := bel_trans hb1 hb2
  go_wp2_with fail
  refine (H13.out _ (HG.out _ hB2)).mono ?_
  rintro e w3 ⟨a3, c3, rfl, hn3, hb3⟩
  have hB3 := bel_trans hB2 hb3
  have hi3 := hi2.later hb3
  go_wp2_with fail
  refine (H12.out _ _ _ hn3).mono ?_
  rintro e w4 ⟨a4, c4, rfl, hi4, hb4⟩
  have hB4 := bel_trans hB3 hb4
  have hi34 := hi3.later hb4
  clear hb1 hb2 hB2 hb3 hB3 hb4 hi2 hi3 hn3
  go_wp2_with fail
  refine (H10.out _ _ _ _ _ hi34 hi4).mono ?_
  rintro e w5 ⟨rfl, hb5⟩
  have hB5 := bel_trans hB4 hb5
  go_wp2_with fail
  refine (H14.out _ (HG.out _ hB5)).mono ?_
  rintro e w6 ⟨rfl, hb6⟩
  have hB6 := bel_trans hB5 hb6
  go_wp2_with fail
  refine (H13.out _ (HG.out _ hB6)).mono ?_
  rintro e w7 ⟨a7, c7, rfl, hn7, hb7⟩
  have hB7 := bel_trans hB6 hb7
  go_wp2_with fail
  refine (H15.out _ _ _ hn7).mono ?_
  rintro e w8 ⟨rfl, hb8⟩
  go_wp2
  go_ret
  exact ⟨rfl, bel_trans hB7 hb8⟩
end Go.Proofs.Ytimgpikgkbjliaa
