/-
  The contract of the document's own Unpack.
-/
import Derived.Test.YtlpbpibjofepjaaR1
namespace Go.Proofs.Ytlpbpibjofepjaa
open Go.RowKit

theorem runb_yes (q : Option Addr) (x : Nat) (w : World) (hx : x < 268435456) (h1 : IntsAt w q Ws) :
    Calls Try.prog 27 #[.slice q 4 4, .int .u64 x] w fun e w' => ∃ u c, e = .returned (.tuple #[.slice u 4 c, .int .i64 0]) ∧ IntsAt w' u [((x % 4 : Nat) : Int), ((x / 4 % 16777216 : Nat) : Int), ((x / 67108864 % 2 : Nat) : Int), ((x / 134217728 % 2 : Nat) : Int)] ∧ Below w.heap.size w w' := by
  have := refUnpack_yes q 4 Ws x w (by decide) h1 (by omega) ⟨spanWs, by rw [sumWs]; exact Nat.div_eq_of_lt hx⟩
  rw [unpack_vals] at this
  exact this
theorem runb_no (q : Option Addr) (x : Nat) (w : World) (hx : 268435456 ≤ x) (hl : x < 18446744073709551616) (h1 : IntsAt w q Ws) :
    Calls Try.prog 27 #[.slice q 4 4, .int .u64 x] w fun e w' => e = .returned (.tuple #[.slice none 0 0, .int .i64 1]) ∧ Below w.heap.size w w' := by
  refine refUnpack_no q 4 Ws x w (by decide) h1 hl (fun h => ?_)
  have h2 := h.2
  rw [sumWs] at h2
  have h3 : x / 268435456 = 0 := h2
  omega
theorem IntsAt.fourO {w : World} {u : Option Addr} {v0 v1 v2 v3 : Int} (h : IntsAt w u [v0, v1, v2, v3]) :
    ∃ b off, u = some ⟨b, off, none⟩ ∧ w.cell? ⟨b, off, none⟩ = some (.int .i64 v0) ∧ w.cell? ⟨b, off + 1, none⟩ = some (.int .i64 v1) ∧ w.cell? ⟨b, off + 2, none⟩ = some (.int .i64 v2) ∧ w.cell? ⟨b, off + 3, none⟩ = some (.int .i64 v3) := by
  obtain ⟨b, off, rfl, h0⟩ := h 0 (by simp)
  refine ⟨b, off, rfl, h0, ?_⟩
  have g : ∀ i (hi : i < 4), w.cell? ⟨b, off + i, none⟩ = some (.int .i64 ([v0, v1, v2, v3].getD i 0)) := fun i hi => IntsAt.get h i hi
  exact ⟨g 1 (by decide), g 2 (by decide), g 3 (by decide)⟩

theorem packOk_word (x : Nat) (hx : x < 268435456) : packOk ((x % 4 : Nat) : Int) ((x / 4 % 16777216 : Nat) : Int) (x / 67108864 % 2 == 1) (x / 134217728 % 2 == 1) = isEnt x := by
  unfold packOk
  rw [mayB_word x hx]
  have h1 : decide ((0 : Int) ≤ ((x / 4 % 16777216 : Nat) : Int)) = true := by simp; omega
  have h2 : decide (((x / 4 % 16777216 : Nat) : Int) < 16777216) = true := by simp; omega
  rw [h1, h2]; simp
theorem word_of (x : Nat) (hx : x < 268435456) : wordOf ((x % 4 : Nat) : Int) ((x / 4 % 16777216 : Nat) : Int) (x / 67108864 % 2 == 1) (x / 134217728 % 2 == 1) = x := by
  have q : ∀ n : Nat, (n % 2 == 1).toNat = n % 2 := fun n => by rcases Nat.mod_two_eq_zero_or_one n with h | h <;> simp [h]
  unfold wordOf
  rw [q, q]
  simp only [Int.toNat_natCast]
  omega
theorem built4 (w w0 : World) (hB : Below w0.heap.size w0 w) : ∃ w1, w1 = w.alloc (.cells #[.int .i64 2, .int .i64 24, .int .i64 1, .int .i64 1] 3) ∧ IntsAt w1 (some ⟨w.heap.size, 0, none⟩) Ws ∧ Below w0.heap.size w0 w1 ∧ ∀ b t vs, RowAt w b t vs → RowAt w1 b t vs :=
  ⟨_, rfl, IntsAt.of_row (t := 3) (RowAt.new w _ 3), bel_trans hB (below_alloc _ _), fun _ _ _ h => h.alloc _⟩

set_option maxHeartbeats 4000000 in
theorem runpack (x : Nat) (w : World) (hl : x < 18446744073709551616) :
    Calls Try.prog 13 #[.int .u64 x] w fun e w' => e = .returned (.tuple #[.agg #[.int .i64 (eK x), .int .i64 (eP x), .bool (eW x), .bool (eT x)], .int .i64 (eE x)]) ∧ Below w.heap.size w w' := by
  have hz : isEnt x = false → eK x = 0 ∧ eP x = 0 ∧ eW x = false ∧ eT x = false ∧ eE x = 1 := fun h => by simp [eK, eP, eW, eT, eE, h]
  have hy : isEnt x = true → eK x = ((x % 4 : Nat) : Int) ∧ eP x = ((x / 4 % 16777216 : Nat) : Int) ∧ eW x = (x / 67108864 % 2 == 1) ∧ eT x = (x / 134217728 % 2 == 1) ∧ eE x = 0 := fun h => by simp [eK, eP, eW, eT, eE, h]
  obtain ⟨w1, hw1, hr1, hb1, -⟩ := boxOn w w (.int .i64 0) (.int .i64 0) (.bool false) (.bool false) (Below.refl _ _)
  obtain ⟨w2, hw2, hi2, hb2, hk2⟩ := built4 w1 w hb1
  have hr2 := hk2 _ _ _ hr1
  have hsz : w1.heap.size = w.heap.size + 1 := by rw [hw1]; simp
  rw [hsz] at hi2
  rw [hw1] at hw2
  clear hr1 hb1 hk2 hsz hw1 w1
  by_cases hx : x < 268435456
  · have HU : Hid (∀ (q : Option Addr) (w : World), IntsAt w q Ws → Calls Try.prog 27 #[.slice q 4 4, .int .u64 x] w fun e w' => ∃ u c, e = .returned (.tuple #[.slice u 4 c, .int .i64 0]) ∧ IntsAt w' u [((x % 4 : Nat) : Int), ((x / 4 % 16777216 : Nat) : Int), ((x / 67108864 % 2 : Nat) : Int), ((x / 134217728 % 2 : Nat) : Int)] ∧ Below w.heap.size w w') :=
      fun q w h => runb_yes q x w hx h
    have hM := packOk_word x hx
    have hO := word_of x hx
    have e2 := bool_of (x / 67108864)
    have e3 := bool_of (x / 134217728)
    have hP : 0 ≤ ((x / 4 % 16777216 : Nat) : Int) ∧ ((x / 4 % 16777216 : Nat) : Int) < 16777216 := by omega
    obtain ⟨V0, hV0⟩ : ∃ V : Int, V = ((x % 4 : Nat) : Int) := ⟨_, rfl⟩
    obtain ⟨V1, hV1⟩ : ∃ V : Int, V = ((x / 4 % 16777216 : Nat) : Int) := ⟨_, rfl⟩
    obtain ⟨V2, hV2⟩ : ∃ V : Int, V = ((x / 67108864 % 2 : Nat) : Int) := ⟨_, rfl⟩
    obtain ⟨V3, hV3⟩ : ∃ V : Int, V = ((x / 134217728 % 2 : Nat) : Int) := ⟨_, rfl⟩
    obtain ⟨A, hA⟩ : ∃ A, A = (x / 67108864 % 2 == 1) := ⟨_, rfl⟩
    obtain ⟨B, hB⟩ : ∃ A, A = (x / 134217728 % 2 == 1) := ⟨_, rfl⟩
    rw [← hV0, ← hV1, ← hA, ← hB] at hM hy hO
    rw [← hV1] at hP
    rw [← hV0, ← hV1, ← hV2, ← hV3] at HU
    rw [← hV2, ← hA] at e2
    rw [← hV3, ← hB] at e3
    clear hV0 hV1 hV2 hV3 hA hB hx
    have HM : Hid (∀ w, Calls Try.prog 11 #[.agg #[.int .i64 V0, .int .i64 V1, .bool A, .bool B]] w fun e w' => e = .returned (.tuple #[.int .u64 (packX V0 V1 A B), .int .i64 (packE V0 V1 A B)]) ∧ Below w.heap.size w w') :=
      fun w => rpack V0 V1 A B w (by omega)
    cases hE : isEnt x with
    | true =>
      obtain ⟨y1, y2, y3, y4, y5⟩ := hy hE
      rw [y1, y2, y3, y4, y5]
      rw [hE] at hM
      rw [packX_ok hM, packE_ok hM, hO] at HM
      have hxx : ((x : Int) != (x : Int)) = false := by simp
      clear hy hz y1 y2 y3 y4 y5 hE hM hO hP hl
      go_enter Try.func13, Try.ntmps13
      go_wp2_with fail
      rw [← hw2]
      clear hw2
      refine (HU.out _ _ hi2).mono ?_
      rintro e w3 ⟨u, cu, rfl, hv, hb3⟩
      have hr3 := hr2.later hb3
      have hB3 := bel_trans hb2 hb3
      obtain ⟨bv, off, rfl, c0, c1, c2, c3⟩ := hv.fourO
      clear hi2 hr2 hb2 hb3 hv
      go_wp2_with fail
      have hne := World.new_ne w3 ⟨bv, off, none⟩ c0
      go_region_held3 (fun w' => w'.cell? ⟨bv, off, none⟩ = some (.int .i64 V0) ∧ w'.cell? ⟨bv, off + 1, none⟩ = some (.int .i64 V1) ∧ w'.cell? ⟨bv, off + 2, none⟩ = some (.int .i64 V2) ∧ w'.cell? ⟨bv, off + 3, none⟩ = some (.int .i64 V3)) (go_keep) (fail)
      obtain ⟨w4, hw4, hr4, hB4, hkeep⟩ := boxDrew w w3 (.int .i64 V0) (.int .i64 V1) (.bool A) (.bool B) hB3
      rw [← hw4]
      have hz4 := hkeep _ _ _ hr3
      clear c0 c1 c2 c3 hne hw4 hkeep hB3 hr3
      obtain ⟨k0, k1, k2, k3⟩ := hr4.four
      go_wp2_with fail
      refine (HM.out _).mono ?_
      rintro e w5 ⟨rfl, hb5⟩
      have hr5 := hr4.later hb5
      have hz5 := hz4.later hb5
      have hB5 := bel_trans hB4 hb5
      clear k0 k1 k2 k3 hr4 hz4 hB4 hb5
      obtain ⟨k0, k1, k2, k3⟩ := hr5.four
      obtain ⟨z0, z1, z2, z3⟩ := hz5.four
      have f0 := hz5.frozen 0
      have f1 := hz5.frozen 1
      have f2 := hz5.frozen 2
      have f3 := hz5.frozen 3
      go_wp2_with fail
      obtain ⟨w6, hw6, hr6, hB6⟩ := setFour (.int .i64 V0) (.int .i64 V1) (.bool A) (.bool B) hz5 hB5 (Nat.le_refl _)
      rw [← hw6]
      clear hw6 k0 k1 k2 k3 z0 z1 z2 z3 f0 f1 f2 f3 hr5 hz5 hB5
      refine bodyPost_ret (res2 rfl _ _ _ _ _ _ _ rfl hr6) rfl ?_
      exact ⟨rfl, hB6⟩
    | false =>
      obtain ⟨y1, y2, y3, y4, y5⟩ := hz hE
      rw [y1, y2, y3, y4, y5]
      rw [hE] at hM
      rw [packX_no hM, packE_no hM] at HM
      clear hy hz y1 y2 y3 y4 y5 hE hM hO hP hl
      go_enter Try.func13, Try.ntmps13
      go_wp2_with fail
      rw [← hw2]
      clear hw2
      refine (HU.out _ _ hi2).mono ?_
      rintro e w3 ⟨u, cu, rfl, hv, hb3⟩
      have hr3 := hr2.later hb3
      have hB3 := bel_trans hb2 hb3
      obtain ⟨bv, off, rfl, c0, c1, c2, c3⟩ := hv.fourO
      clear hi2 hr2 hb2 hb3 hv
      go_wp2_with fail
      have hne := World.new_ne w3 ⟨bv, off, none⟩ c0
      go_region_held3 (fun w' => w'.cell? ⟨bv, off, none⟩ = some (.int .i64 V0) ∧ w'.cell? ⟨bv, off + 1, none⟩ = some (.int .i64 V1) ∧ w'.cell? ⟨bv, off + 2, none⟩ = some (.int .i64 V2) ∧ w'.cell? ⟨bv, off + 3, none⟩ = some (.int .i64 V3)) (go_keep) (fail)
      obtain ⟨w4, hw4, hr4, hB4, hkeep⟩ := boxDrew w w3 (.int .i64 V0) (.int .i64 V1) (.bool A) (.bool B) hB3
      rw [← hw4]
      have hz4 := hkeep _ _ _ hr3
      clear c0 c1 c2 c3 hne hw4 hkeep hB3 hr3
      obtain ⟨k0, k1, k2, k3⟩ := hr4.four
      go_wp2_with fail
      refine (HM.out _).mono ?_
      rintro e w5 ⟨rfl, hb5⟩
      have hr5 := hr4.later hb5
      have hz5 := hz4.later hb5
      have hB5 := bel_trans hB4 hb5
      clear k0 k1 k2 k3 hr4 hz4 hB4 hb5
      obtain ⟨k0, k1, k2, k3⟩ := hr5.four
      obtain ⟨z0, z1, z2, z3⟩ := hz5.four
      have f0 := hz5.frozen 0
      have f1 := hz5.frozen 1
      have f2 := hz5.frozen 2
      have f3 := hz5.frozen 3
      go_wp2_with fail
      obtain ⟨w6, hw6, hr6, hB6⟩ := setFour (.int .i64 0) (.int .i64 0) (.bool false) (.bool false) hz5 hB5 (Nat.le_refl _)
      rw [← hw6]
      clear hw6 k0 k1 k2 k3 z0 z1 z2 z3 f0 f1 f2 f3 hr5 hz5 hB5
      refine bodyPost_ret (res2 rfl _ _ _ _ _ _ _ rfl hr6) rfl ?_
      exact ⟨rfl, hB6⟩
  · have hE : isEnt x = false := by
      cases h : isEnt x with
      | false => rfl
      | true => have := isEnt_yes h; omega
    obtain ⟨y1, y2, y3, y4, y5⟩ := hz hE
    rw [y1, y2, y3, y4, y5]
    have HU : Hid (∀ (q : Option Addr) (w : World), IntsAt w q Ws → Calls Try.prog 27 #[.slice q 4 4, .int .u64 x] w fun e w' => e = .returned (.tuple #[.slice none 0 0, .int .i64 1]) ∧ Below w.heap.size w w') :=
      fun q w h => runb_no q x w (by omega) hl h
    clear hy hz y1 y2 y3 y4 y5 hE hx hl
    go_enter Try.func13, Try.ntmps13
    go_wp2_with fail
    rw [← hw2]
    clear hw2
    refine (HU.out _ _ hi2).mono ?_
    rintro e w3 ⟨rfl, hb3⟩
    have hz5 := hr2.later hb3
    have hB5 := bel_trans hb2 hb3
    clear hi2 hr2 hb2 hb3
    obtain ⟨z0, z1, z2, z3⟩ := hz5.four
    have f0 := hz5.frozen 0
    have f1 := hz5.frozen 1
    have f2 := hz5.frozen 2
    have f3 := hz5.frozen 3
    go_wp2_with fail
    obtain ⟨w6, hw6, hr6, hB6⟩ := setFour (.int .i64 0) (.int .i64 0) (.bool false) (.bool false) hz5 hB5 (Nat.le_refl _)
    rw [← hw6]
    clear hw6 z0 z1 z2 z3 f0 f1 f2 f3 hz5 hB5
    refine bodyPost_ret (res2 rfl _ _ _ _ _ _ _ rfl hr6) rfl ?_
    exact ⟨rfl, hB6⟩
end Go.Proofs.Ytlpbpibjofepjaa
