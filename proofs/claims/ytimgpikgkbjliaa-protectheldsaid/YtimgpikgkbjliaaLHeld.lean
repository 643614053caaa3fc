/-
  ProtectHeld, walked.
-/
import Derived.Test.YtimgpikgkbjliaaWorks
import Derived.Test.YtimgpikgkbjliaaOpen
import Derived.Test.YtimgpikgkbjliaaR2
import Derived.Test.YtimgpikgkbjliaaR4
namespace Go.Proofs.Ytimgpikgkbjliaa
open Go.RowKit

theorem overL_le (L : List Nd) (N : List Int) (t : Int) : (overL L N t).length ≤ L.length := by
  unfold overL
  split
  · rw [ovN_len]; exact Nat.le_refl _
  · simp

set_option maxRecDepth 100000 in
set_option maxHeartbeats 8000000 in
theorem held_walk (a : Option Addr) (cap : Nat) (G : List Nd) (ae : Option Addr) (ce : Nat) (N : List Int) (t g : Int) (w : World) (h : ListIn w a cap G) (hE : IntsIn w ae N) :
    Calls Try.prog 4 #[.slice a G.length cap, .slice ae N.length ce, .int .i64 t, .int .i64 g] w fun e w' => e = .returned (.bool true) ∧ Below w.heap.size w w' := by
  obtain ⟨hn, hle⟩ := h
  obtain ⟨hi, hle2⟩ := hE
  have HW := (show Hid (∀ w, Calls Try.prog 9 #[] w fun e w' => e = .returned (.bool true) ∧ Below w.heap.size w w') from works)
  by_cases h70 : 70 < G.length
  · have hd : decide (70 < G.length) = true := by simpa using h70
    go_enter Try.func4, Try.ntmps4
    go_wp2_with fail
    refine (HW.out _).mono ?_
    rintro e w1 ⟨rfl, hb1⟩
    go_wp2
    go_ret
    exact ⟨rfl, hb1⟩
  have d70 : decide (70 < G.length) = false := by simpa using h70
  have d70i : decide ((70 : Int) < (G.length : Int)) = false := by simp; omega
  by_cases h71 : 70 < N.length
  · have hd : decide (70 < N.length) = true := by simpa using h71
    go_enter Try.func4, Try.ntmps4
    go_wp2_with fail
    refine (HW.out _).mono ?_
    rintro e w1 ⟨rfl, hb1⟩
    go_wp2
    go_ret
    exact ⟨rfl, hb1⟩
  have d71 : decide (70 < N.length) = false := by simpa using h71
  have d71i : decide ((70 : Int) < (N.length : Int)) = false := by simp; omega
  have HG : Hid (∀ w', Below w.heap.size w w' → Nds w' a cap G) := fun w' hb => hn.later hb
  have HJ : Hid (∀ w', Below w.heap.size w w' → Ints w' ae N) := fun w' hb => hi.later hb
  have H13 : Hid (∀ w', Nds w' a cap G → Calls Try.prog 13 #[.slice a G.length cap] w' fun e w'' => ∃ a' c', e = .returned (.slice a' G.length c') ∧ Nds w'' a' c' G ∧ Below w'.heap.size w' w'') := fun w' h => rof a cap G w' h (by omega)
  obtain ⟨O, hO⟩ : ∃ O, overL G N t = O := ⟨_, rfl⟩
  have hOl : O.length ≤ 70 := by have := overL_le G N t; rw [hO] at this; omega
  obtain ⟨V, hV⟩ : ∃ V, held G N t g = V := ⟨_, rfl⟩
  have H10 : Hid (∀ w' a b ca cb, Ints w' a O → Ints w' b O → Calls Try.prog 10 #[.slice a O.length ca, .slice b O.length cb] w' fun e w'' => e = .returned (.bool true) ∧ Below w'.heap.size w' w'') := fun w' a b ca cb h1 h2 => prow a b ca cb O w' h1 h2 (by omega)
  have H17 : Hid (∀ w', Nds w' a cap G → Ints w' ae N → Calls Try.prog 17 #[.slice a G.length cap, .slice ae N.length ce, .int .i64 t, .int .i64 g] w' fun e w'' => e = .returned (.bool V) ∧ Below w'.heap.size w' w'') := by
    intro w' h h2
    have := pHeld a cap G ae ce N t g w' h h2 (by omega) (by omega)
    rw [hV] at this
    exact this
  have H16 : Hid (∀ w' a c, Nds w' a c G → Ints w' ae N → Calls Try.prog 16 #[.slice a G.length c, .slice ae N.length ce, .int .i64 t, .int .i64 g] w' fun e w'' => e = .returned (.bool V) ∧ Below w'.heap.size w' w'') := by
    intro w' a c h h2
    have := rHeld a c G ae ce N t g w' h h2 (by omega) (by omega)
    rw [hV] at this
    exact this
  have H18 : Hid ((∀ i, i < N.length → 0 ≤ at0 N i ∧ at0 N i ≤ 2199023255552) → ∀ w', Nds w' a cap G → Ints w' ae N → Calls Try.prog 18 #[.slice a G.length cap, .slice ae N.length ce, .int .i64 t] w' fun e w'' => ∃ a' c', e = .returned (.slice a' O.length c') ∧ Ints w'' a' O ∧ Below w'.heap.size w' w'') := by
    intro hbd w' h h2
    have := pover a cap G ae ce N t w' h h2 (by omega) (by omega) hbd
    rw [hO] at this
    exact this
  have H19 : Hid ((∀ i, i < N.length → 0 ≤ at0 N i ∧ at0 N i ≤ 2199023255552) → ∀ w' a c, Nds w' a c G → Ints w' ae N → Calls Try.prog 19 #[.slice a G.length c, .slice ae N.length ce, .int .i64 t] w' fun e w'' => ∃ a' c', e = .returned (.slice a' O.length c') ∧ Ints w'' a' O ∧ Below w'.heap.size w' w'') := by
    intro hbd w' a c h h2
    have := rover a c G ae ce N t w' h h2 (by omega) (by omega) hbd
    rw [hO] at this
    exact this
  have hVV : (V == V) = true := by simp
  clear hO hOl hV hn hi
  go_enter Try.func4, Try.ntmps4
  go_wp2_with fail
  refine (HW.out _).mono ?_
  rintro e w1 ⟨rfl, hb1⟩
  go_wp2
  go_loop [10] (fun s10 => ∃ j : Nat, j ≤ N.length ∧ s10 = .int .i64 j ∧ Hid (∀ i, i < j → 0 ≤ at0 N i ∧ at0 N i ≤ 2199023255552)) (fun s10 => N.length - (intOf s10).toNat)
  case atStart => exact ⟨0, by omega, rfl, (show ∀ i, i < 0 → 0 ≤ at0 N i ∧ at0 N i ≤ 2199023255552 from fun i hi => by omega)⟩
  case round =>
    obtain ⟨j, hj, rfl, HI⟩ := hrel
    by_cases hjl : j < N.length
    · obtain ⟨be, oe, rfl, k0⟩ := (HJ.out _ hb1).at' j hjl
      have k0' : w1.cell? ⟨be, oe + j, none⟩ = some (.int .i64 (at0 N j)) := k0
      obtain ⟨Z, hZ⟩ : ∃ Z, Z = at0 N j := ⟨_, rfl⟩
      rw [← hZ] at k0'
      clear k0
      by_cases hz0 : Z < 0
      · have hd : decide (Z < 0) = true := by simpa using hz0
        clear hZ HI
        go_wp2
        go_ret
        exact ⟨rfl, hb1⟩
      have dz0 : decide (Z < 0) = false := by simpa using hz0
      by_cases hz1 : 2199023255552 < Z
      · have hd : decide (2199023255552 < Z) = true := by simpa using hz1
        clear hZ HI
        go_wp2
        go_ret
        exact ⟨rfl, hb1⟩
      have dz1 : decide (2199023255552 < Z) = false := by simpa using hz1
      have HI2 : Hid (∀ i, i < j + 1 → 0 ≤ at0 N i ∧ at0 N i ≤ 2199023255552) := by
        intro i hi
        by_cases e : i = j
        · subst e; rw [← hZ]; omega
        · exact HI.out i (by omega)
      clear hZ HI
      go_wp2
      exact ⟨⟨j + 1, by omega, by go_num, HI2⟩, by simp [intOf]; omega⟩
    · have hlen : j = N.length := by omega
      subst hlen
      have H18' := H18.out HI.out
      have H19' := H19.out HI.out
      have H18b : Hid (∀ w', Nds w' a cap G → Ints w' ae N → Calls Try.prog 18 #[.slice a G.length cap, .slice ae N.length ce, .int .i64 t] w' fun e w'' => ∃ a' c', e = .returned (.slice a' O.length c') ∧ Ints w'' a' O ∧ Below w'.heap.size w' w'') := H18'
      have H19b : Hid (∀ w' a c, Nds w' a c G → Ints w' ae N → Calls Try.prog 19 #[.slice a G.length c, .slice ae N.length ce, .int .i64 t] w' fun e w'' => ∃ a' c', e = .returned (.slice a' O.length c') ∧ Ints w'' a' O ∧ Below w'.heap.size w' w'') := H19'
      have hdn : decide (N.length < N.length) = false := by simp
      clear H18 H19 H18' H19' HI
      go_wp2_with fail
      refine (H13.out _ (HG.out _ hb1)).mono ?_
      rintro e w2 ⟨a2, c2, rfl, hn2, hb2⟩
      have hB2 := bel_trans hb1 hb2
      go_wp2_with fail
      refine (H16.out _ _ _ hn2 (HJ.out _ hB2)).mono ?_
      rintro e w3 ⟨rfl, hb3⟩
      have hB3 := bel_trans hB2 hb3
      clear hb1 hb2 hB2 hb3 hn2
      go_wp2_with fail
      refine (H17.out _ (HG.out _ hB3) (HJ.out _ hB3)).mono ?_
      rintro e w4 ⟨rfl, hb4⟩
      have hB4 := bel_trans hB3 hb4
      go_wp2_with fail
      refine (H18b.out _ (HG.out _ hB4) (HJ.out _ hB4)).mono ?_
      rintro e w5 ⟨a5, c5, rfl, hi5, hb5⟩
      have hB5 := bel_trans hB4 hb5
      clear hB3 hb4 hB4 hb5
      go_wp2_with fail
      refine (H13.out _ (HG.out _ hB5)).mono ?_
      rintro e w6 ⟨a6, c6, rfl, hn6, hb6⟩
      have hB6 := bel_trans hB5 hb6
      have hi56 := hi5.later hb6
      go_wp2_with fail
      refine (H19b.out _ _ _ hn6 (HJ.out _ hB6)).mono ?_
      rintro e w7 ⟨a7, c7, rfl, hi7, hb7⟩
      have hB7 := bel_trans hB6 hb7
      have hi57 := hi56.later hb7
      clear hi5 hB5 hb6 hB6 hb7 hn6 hi56
      go_wp2_with fail
      refine (H10.out _ _ _ _ _ hi57 hi7).mono ?_
      rintro e w8 ⟨rfl, hb8⟩
      go_wp2
      go_ret
      exact ⟨rfl, bel_trans hB7 hb8⟩
end Go.Proofs.Ytimgpikgkbjliaa
