/-
  The law ShadowMakes walked.
-/
import Derived.Test.YtgnobaenlcbfjaaWorks
import Derived.OpenShut
import Derived.ProofKit
namespace Go.Proofs.Ytgnobaenlcbfjaa
open Go.RowKit Go.ChangeShapes Go.WideShapes Go.ChangeAt

theorem wf_bd {i : Int} (h : (Lit.int .i64 i).wf = true) : -9223372036854775808 ≤ i ∧ i ≤ 9223372036854775807 := by
  have := bounds_i64 h
  omega
set_option maxRecDepth 100000 in
set_option maxHeartbeats 8000000 in
theorem makes_walk (g c : Int) (x : Nat) (r : Int) (w : World) (hg : (Lit.int .i64 g).wf = true) (hc : (Lit.int .i64 c).wf = true) (hx : x < 18446744073709551616) :
    Calls Try.prog 3 #[.int .i64 g, .int .i64 c, .int .u64 x, .int .i64 r] w fun e w' => e = .returned (.bool true) ∧ Below w.heap.size w w' := by
  have hg' := wf_bd hg
  have hc' := wf_bd hc
  have HL : Hid (∀ w, Calls Try.prog 9 #[.int .u64 x] w fun e w' => e = .returned (.tuple #[.int .i64 (gS x), .int .i64 (cS x), .bool (isS x)]) ∧ w' = w) := fun w => plook x w hx
  have HR : Hid (∀ w, Calls Try.prog 10 #[.int .u64 x] w fun e w' => e = .returned (.tuple #[.int .i64 (gS x), .int .i64 (cS x), .bool (isS x)]) ∧ w' = w) := fun w => rlook x w hx
  have HD : Hid (∀ w, Calls Try.prog 11 #[.int .u64 x, .int .i64 c] w fun e w' => e = .returned (.int .i64 (dS x c)) ∧ w' = w) := fun w => rdist x c w hx hc'.2
  have HE : Hid (∀ w, Calls Try.prog 14 #[.int .u64 x, .int .i64 c] w fun e w' => e = .returned (.int .i64 (dS x c)) ∧ w' = w) := fun w => pdist x c w hx hc'.2
  have HM : Hid (∀ w, Calls Try.prog 12 #[.int .i64 g, .int .i64 c] w fun e w' => e = .returned (.int .u64 (mkS g c)) ∧ Below w.heap.size w w') := fun w => pmake g c w hg'
  have HN : Hid (∀ w, Calls Try.prog 13 #[.int .i64 g, .int .i64 c] w fun e w' => e = .returned (.int .u64 (mkS g c)) ∧ w' = w) := fun w => rmake g c w hc'.2
  have HW : Hid (∀ w, Calls Try.prog 15 #[.int .u64 x, .int .i64 c, .int .i64 r] w fun e w' => e = .returned (.bool (nearS x c r)) ∧ w' = w) := fun w => pwork x c r w hx hc'.2
  have HV : Hid (nearS x c r = (decide (0 ≤ dS x c) && decide (dS x c ≤ r))) := by unfold nearS; exact Bool.decide_and _ _
  obtain ⟨G, e1⟩ : ∃ G, G = gS x := ⟨_, rfl⟩
  obtain ⟨C, e2⟩ : ∃ C, C = cS x := ⟨_, rfl⟩
  obtain ⟨S, e3⟩ : ∃ S, S = isS x := ⟨_, rfl⟩
  obtain ⟨D, e4⟩ : ∃ D, D = dS x c := ⟨_, rfl⟩
  obtain ⟨X, e5⟩ : ∃ X, X = mkS g c := ⟨_, rfl⟩
  obtain ⟨V, e6⟩ : ∃ V, V = nearS x c r := ⟨_, rfl⟩
  rw [← e1, ← e2, ← e3] at HL HR
  rw [← e4] at HD HE HV
  rw [← e5] at HM HN
  rw [← e6] at HW HV
  clear e1 e2 e3 e4 e5 e6 hg' hc' hg hc hx
  go_enter Try.func3, Try.ntmps3
  go_wp2_with fail
  refine (works_any _).mono ?_
  rintro e w1 ⟨rfl, hb1⟩
  go_wp2_with fail
  refine (HL.out _).mono ?_
  rintro e w2 ⟨rfl, rfl⟩
  go_wp2_with fail
  refine (HR.out _).mono ?_
  rintro e w3 ⟨rfl, rfl⟩
  go_wp2_with fail
  refine (HD.out _).mono ?_
  rintro e w4 ⟨rfl, rfl⟩
  go_wp2_with fail
  refine (HM.out _).mono ?_
  rintro e w5 ⟨rfl, hb5⟩
  have HB : Hid (Below w.heap.size w w5) := bel_trans hb1 hb5 (Nat.le_refl _)
  clear hb1 hb5
  go_wp2_with fail
  refine (HN.out _).mono ?_
  rintro e w6 ⟨rfl, rfl⟩
  by_cases h0 : 0 ≤ D
  · have hq : V = decide (D ≤ r) := by rw [HV.out]; simp [h0]
    subst hq
    go_wp2_with fail
    refine (HE.out _).mono ?_
    rintro e w7 ⟨rfl, rfl⟩
    go_wp2_with fail
    refine (HW.out _).mono ?_
    rintro e w8 ⟨rfl, rfl⟩
    go_wp2_with fail
    go_ret
    exact ⟨rfl, HB.out⟩
  · have hd : decide (0 ≤ D) = false := by simp; omega
    have hq : V = false := by rw [HV.out, hd]; rfl
    subst hq
    go_wp2_with fail
    refine (HE.out _).mono ?_
    rintro e w7 ⟨rfl, rfl⟩
    go_wp2_with fail
    refine (HW.out _).mono ?_
    rintro e w8 ⟨rfl, rfl⟩
    go_wp2_with fail
    go_ret
    exact ⟨rfl, HB.out⟩
end Go.Proofs.Ytgnobaenlcbfjaa
