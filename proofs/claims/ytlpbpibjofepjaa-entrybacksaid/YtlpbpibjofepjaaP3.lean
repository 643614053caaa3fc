/-
  The contract of entry.Unpack.
-/
import Derived.Test.YtlpbpibjofepjaaP2
import Derived.Laws.ResultCell
import Derived.Laws.Rows
namespace Go.Proofs.Ytlpbpibjofepjaa
open Go.RowKit

theorem pwidthsQ (w : World) : Calls Try.prog 22 #[] w fun e w' => ∃ q, e = .returned (.slice (some ⟨q, 0, none⟩) 4 4) ∧ IntsAt w' (some ⟨q, 0, none⟩) Ws ∧ Below w.heap.size w w' :=
  (pwidths w).mono fun _ _ h => ⟨_, h.1, h.2.1, h.2.2.1⟩
theorem punb_yes (q : Option Addr) (x : Nat) (w : World) (hx : x < 268435456) (h1 : IntsAt w q Ws) :
    Calls Try.prog 26 #[.slice q 4 4, .int .u64 x] w fun e w' => ∃ b, e = .returned (.tuple #[.slice (some ⟨b, 0, none⟩) 4 4, .int .i64 0]) ∧ IntsAt w' (some ⟨b, 0, none⟩) [((x % 4 : Nat) : Int), ((x / 4 % 16777216 : Nat) : Int), ((x / 67108864 % 2 : Nat) : Int), ((x / 134217728 % 2 : Nat) : Int)] ∧ Below w.heap.size w w' := by
  have := unpack_yes q 4 Ws x w (by decide) h1 spanWs (by omega) (by rw [sumWs]; exact Nat.div_eq_of_lt hx)
  rw [unpack_vals] at this
  exact this.mono fun _ _ h => ⟨_, h⟩
theorem punb_no (q : Option Addr) (x : Nat) (w : World) (hx : 268435456 ≤ x) (h1 : IntsAt w q Ws) :
    Calls Try.prog 26 #[.slice q 4 4, .int .u64 x] w fun e w' => e = .returned (.tuple #[.slice none 0 0, .int .i64 1]) ∧ w' = w := by
  refine unpack_no q 4 Ws x w (by decide) h1 (fun h => ?_)
  have h2 := h.2
  rw [sumWs] at h2
  have h3 : x / 268435456 = 0 := h2
  omega

theorem IntsAt.four {w : World} {b : Nat} {v0 v1 v2 v3 : Int} (h : IntsAt w (some ⟨b, 0, none⟩) [v0, v1, v2, v3]) :
    w.cell? ⟨b, 0, none⟩ = some (.int .i64 v0) ∧ w.cell? ⟨b, 1, none⟩ = some (.int .i64 v1) ∧ w.cell? ⟨b, 2, none⟩ = some (.int .i64 v2) ∧ w.cell? ⟨b, 3, none⟩ = some (.int .i64 v3) := by
  have g : ∀ i (hi : i < 4), w.cell? ⟨b, i, none⟩ = some (.int .i64 ([v0, v1, v2, v3].getD i 0)) := fun i hi => by
    obtain ⟨b', off, e, hc⟩ := h i hi
    have e' := Option.some.inj e
    injection e' with e1 e2
    subst e1; subst e2
    simpa using hc
  exact ⟨g 0 (by decide), g 1 (by decide), g 2 (by decide), g 3 (by decide)⟩

/-- A box laid in a region that draws. -/
theorem boxDrew (w w2 : World) (v0 v1 v2 v3 : Value) (hB : Below w.heap.size w w2) : ∃ w3, w3 = (w2.alloc (.cells #[v0, v1, v2, v3] 24)).drew ∧ RowAt w3 w2.heap.size 24 [v0, v1, v2, v3] ∧ Below w.heap.size w w3 ∧ ∀ b t vs, RowAt w2 b t vs → RowAt w3 b t vs :=
  ⟨_, rfl, (RowAt.new w2 #[v0, v1, v2, v3] 24).drewN 1, below_drawn (hB.trans ((below_alloc _ _).mono hB.size)) 1, fun _ _ _ h => (h.alloc _).drewN 1⟩
theorem RowAt.four {w : World} {b : Nat} {t : TypeId} {v0 v1 v2 v3 : Value} (h : RowAt w b t [v0, v1, v2, v3]) :
    w.cell? ⟨b, 0, none⟩ = some v0 ∧ w.cell? ⟨b, 1, none⟩ = some v1 ∧ w.cell? ⟨b, 2, none⟩ = some v2 ∧ w.cell? ⟨b, 3, none⟩ = some v3 :=
  ⟨by rw [h.cell]; rfl, by rw [h.cell]; rfl, by rw [h.cell]; rfl, by rw [h.cell]; rfl⟩
/-- A struct of four cells stored. -/
theorem setFour {B : Nat} {w w4 : World} {b : Nat} {z0 z1 z2 z3 : Value} (v0 v1 v2 v3 : Value) (hz : RowAt w4 b 24 [z0, z1, z2, z3]) (hb : Below B w w4) (hB : B ≤ b) :
    ∃ w5, w5 = ((((w4.setCell ⟨b, 0, none⟩ v0).setCell ⟨b, 1, none⟩ v1).setCell ⟨b, 2, none⟩ v2).setCell ⟨b, 3, none⟩ v3) ∧ RowAt w5 b 24 [v0, v1, v2, v3] ∧ Below B w w5 :=
  ⟨_, rfl, (((hz.set 0 v0).set 1 v1).set 2 v2).set 3 v3, (((hb.setCell hB _).setCell hB _).setCell hB _).setCell hB _⟩
/-- What is returned, where the first result is a struct in a cell of its own. -/
theorem res2 {fn : Func} {p u : Tmp} (h : fn.results = #[.cell p 24, .tmp u]) (tmps : Array Value) (w : World) (g : Nat) (v0 v1 v2 v3 : Value)
    (hp : tmps.getD p undef = .pointer (some ⟨g, 0, none⟩)) (hg : RowAt w g 24 [v0, v1, v2, v3]) :
    (results fn tmps).run Try.prog w = .ok (.tuple #[.agg #[v0, v1, v2, v3], tmps.getD u undef]) w := by
  have hl := run_loadVar_row (P := Try.prog) w g 24 24 #[v0, v1, v2, v3] (0, 0) _ hg under24 rfl (by kernel_rfl)
  rw [results_cell_tmp h, hp]
  simp [asAddr, hl, Result.andThen]
theorem bool_of (n : Nat) : (((n % 2 : Nat) : Int) == 1) = (n % 2 == 1) := by
  rcases Nat.mod_two_eq_zero_or_one n with h | h <;> simp [h]

theorem mayB_word (x : Nat) (hx : x < 268435456) : mayB ((x % 4 : Nat) : Int) ((x / 4 % 16777216 : Nat) : Int) (x / 67108864 % 2 == 1) (x / 134217728 % 2 == 1) = isEnt x := by
  have h4 : x % 4 < 4 := Nat.mod_lt _ (by decide)
  by_cases h0 : x % 4 = 0
  · by_cases hz : x = 0
    · subst hz; decide
    · have hE : isEnt x = false := by
        cases h : isEnt x with
        | false => rfl
        | true => have := isEnt_yes h; omega
      rw [hE]
      simp only [mayB, h0]
      rw [if_pos (by decide)]
      by_cases hp : x / 4 % 16777216 = 0
      · by_cases ha : x / 67108864 % 2 = 1
        · simp [ha]
        · by_cases hb : x / 134217728 % 2 = 1
          · simp [hb]
          · omega
      · have : (((x / 4 % 16777216 : Nat) : Int) == 0) = false := by simp; omega
        rw [this]; rfl
  · have hk : ¬ ((x % 4 : Nat) : Int) = 0 := by omega
    simp only [mayB]
    rw [if_neg hk]
    by_cases h1 : x % 4 = 1
    · rw [isEnt_of hx (by omega), h1]; decide
    · by_cases h2 : x % 4 = 2
      · rw [isEnt_of hx (by omega), h2]; decide
      · have h3 : x % 4 = 3 := by omega
        have hE : isEnt x = false := by
          cases h : isEnt x with
          | false => rfl
          | true => have := isEnt_yes h; omega
        rw [hE, h3]; decide

set_option maxHeartbeats 4000000 in
theorem punpack (x : Nat) (w : World) :
    Calls Try.prog 12 #[.int .u64 x] w fun e w' => e = .returned (.tuple #[.agg #[.int .i64 (eK x), .int .i64 (eP x), .bool (eW x), .bool (eT x)], .int .i64 (eE x)]) ∧ Below w.heap.size w w' := by
  have hz : isEnt x = false → eK x = 0 ∧ eP x = 0 ∧ eW x = false ∧ eT x = false ∧ eE x = 1 := fun h => by simp [eK, eP, eW, eT, eE, h]
  have hy : isEnt x = true → eK x = ((x % 4 : Nat) : Int) ∧ eP x = ((x / 4 % 16777216 : Nat) : Int) ∧ eW x = (x / 67108864 % 2 == 1) ∧ eT x = (x / 134217728 % 2 == 1) ∧ eE x = 0 := fun h => by simp [eK, eP, eW, eT, eE, h]
  have HB0 : Hid (Below w.heap.size w (w.alloc (.cells #[.int .i64 0, .int .i64 0, .bool false, .bool false] 24))) := below_alloc _ _
  by_cases hx : x < 268435456
  · have HU : Hid (∀ (q : Option Addr) (w : World), IntsAt w q Ws → Calls Try.prog 26 #[.slice q 4 4, .int .u64 x] w fun e w' => ∃ b, e = .returned (.tuple #[.slice (some ⟨b, 0, none⟩) 4 4, .int .i64 0]) ∧ IntsAt w' (some ⟨b, 0, none⟩) [((x % 4 : Nat) : Int), ((x / 4 % 16777216 : Nat) : Int), ((x / 67108864 % 2 : Nat) : Int), ((x / 134217728 % 2 : Nat) : Int)] ∧ Below w.heap.size w w') :=
      fun q w h => punb_yes q x w hx h
    have hM := mayB_word x hx
    have e2 := bool_of (x / 67108864)
    have e3 := bool_of (x / 134217728)
    obtain ⟨V0, hV0⟩ : ∃ V : Int, V = ((x % 4 : Nat) : Int) := ⟨_, rfl⟩
    obtain ⟨V1, hV1⟩ : ∃ V : Int, V = ((x / 4 % 16777216 : Nat) : Int) := ⟨_, rfl⟩
    obtain ⟨V2, hV2⟩ : ∃ V : Int, V = ((x / 67108864 % 2 : Nat) : Int) := ⟨_, rfl⟩
    obtain ⟨V3, hV3⟩ : ∃ V : Int, V = ((x / 134217728 % 2 : Nat) : Int) := ⟨_, rfl⟩
    obtain ⟨A, hA⟩ : ∃ A, A = (x / 67108864 % 2 == 1) := ⟨_, rfl⟩
    obtain ⟨B, hB⟩ : ∃ A, A = (x / 134217728 % 2 == 1) := ⟨_, rfl⟩
    rw [← hV0, ← hV1, ← hA, ← hB] at hM hy
    rw [← hV0, ← hV1, ← hV2, ← hV3] at HU
    rw [← hV2, ← hA] at e2
    rw [← hV3, ← hB] at e3
    clear hV0 hV1 hV2 hV3 hA hB hx
    have HM : Hid (∀ w, Calls Try.prog 20 #[.agg #[.int .i64 V0, .int .i64 V1, .bool A, .bool B]] w fun e w' => e = .returned (.bool (isEnt x)) ∧ Below w.heap.size w w') := by
      intro w
      rw [← hM]
      exact pmayBe V0 V1 A B w
    clear hM
    cases hE : isEnt x with
    | true =>
      obtain ⟨y1, y2, y3, y4, y5⟩ := hy hE
      rw [y1, y2, y3, y4, y5]
      rw [hE] at HM
      clear hy hz y1 y2 y3 y4 y5 hE
      go_enter Try.func12, Try.ntmps12
      go_wp2_with fail
      refine (pwidthsQ _).mono ?_
      rintro e w1 ⟨q, rfl, hi, hb1⟩
      have hr1 : RowAt w1 w.heap.size 24 [.int .i64 0, .int .i64 0, .bool false, .bool false] := (RowAt.new w #[.int .i64 0, .int .i64 0, .bool false, .bool false] 24).below hb1 (by simp)
      have hB1 := HB0.out.trans (hb1.mono HB0.out.size)
      clear hb1
      go_wp2_with fail
      refine (HU.out _ _ hi).mono ?_
      rintro e w2 ⟨bv, rfl, hv, hb2⟩
      have hr2 := hr1.below hb2 hr1.lt
      have hB2 := hB1.trans (hb2.mono hB1.size)
      obtain ⟨c0, c1, c2, c3⟩ := hv.four
      clear hi hr1 hB1 hb2 hv
      go_wp2_with fail
      have hne := World.new_ne w2 ⟨bv, 0, none⟩ c0
      go_region_held3 (fun w' => w'.cell? ⟨bv, 0, none⟩ = some (.int .i64 V0) ∧ w'.cell? ⟨bv, 1, none⟩ = some (.int .i64 V1) ∧ w'.cell? ⟨bv, 2, none⟩ = some (.int .i64 V2) ∧ w'.cell? ⟨bv, 3, none⟩ = some (.int .i64 V3)) (go_keep) (fail)
      obtain ⟨w3, hw3, hr3, hB3, hkeep⟩ := boxDrew w w2 (.int .i64 V0) (.int .i64 V1) (.bool A) (.bool B) hB2
      rw [← hw3]
      have hz3 := hkeep _ _ _ hr2
      clear c0 c1 c2 c3 hne hw3 hkeep hB2 hr2
      obtain ⟨k0, k1, k2, k3⟩ := hr3.four
      go_wp2_with fail
      refine (HM.out _).mono ?_
      rintro e w4 ⟨rfl, hb4⟩
      have hr4 := hr3.below hb4 hr3.lt
      have hz4 := hz3.below hb4 hz3.lt
      have hB4 := hB3.trans (hb4.mono hB3.size)
      clear k0 k1 k2 k3 hr3 hz3 hB3 hb4
      obtain ⟨k0, k1, k2, k3⟩ := hr4.four
      obtain ⟨z0, z1, z2, z3⟩ := hz4.four
      have f0 := hz4.frozen 0
      have f1 := hz4.frozen 1
      have f2 := hz4.frozen 2
      have f3 := hz4.frozen 3
      go_wp2_with fail
      obtain ⟨w5, hw5, hr5, hB5⟩ := setFour (.int .i64 V0) (.int .i64 V1) (.bool A) (.bool B) hz4 hB4 (Nat.le_refl _)
      rw [← hw5]
      clear hw5 k0 k1 k2 k3 z0 z1 z2 z3 f0 f1 f2 f3 hr4 hz4 hB4
      refine bodyPost_ret (res2 rfl _ _ _ _ _ _ _ rfl hr5) rfl ?_
      exact ⟨rfl, hB5⟩
    | false =>
      obtain ⟨y1, y2, y3, y4, y5⟩ := hz hE
      rw [y1, y2, y3, y4, y5]
      rw [hE] at HM
      clear hy hz y1 y2 y3 y4 y5 hE
      go_enter Try.func12, Try.ntmps12
      go_wp2_with fail
      refine (pwidthsQ _).mono ?_
      rintro e w1 ⟨q, rfl, hi, hb1⟩
      have hr1 : RowAt w1 w.heap.size 24 [.int .i64 0, .int .i64 0, .bool false, .bool false] := (RowAt.new w #[.int .i64 0, .int .i64 0, .bool false, .bool false] 24).below hb1 (by simp)
      have hB1 := HB0.out.trans (hb1.mono HB0.out.size)
      clear hb1
      go_wp2_with fail
      refine (HU.out _ _ hi).mono ?_
      rintro e w2 ⟨bv, rfl, hv, hb2⟩
      have hr2 := hr1.below hb2 hr1.lt
      have hB2 := hB1.trans (hb2.mono hB1.size)
      obtain ⟨c0, c1, c2, c3⟩ := hv.four
      clear hi hr1 hB1 hb2 hv
      go_wp2_with fail
      have hne := World.new_ne w2 ⟨bv, 0, none⟩ c0
      go_region_held3 (fun w' => w'.cell? ⟨bv, 0, none⟩ = some (.int .i64 V0) ∧ w'.cell? ⟨bv, 1, none⟩ = some (.int .i64 V1) ∧ w'.cell? ⟨bv, 2, none⟩ = some (.int .i64 V2) ∧ w'.cell? ⟨bv, 3, none⟩ = some (.int .i64 V3)) (go_keep) (fail)
      obtain ⟨w3, hw3, hr3, hB3, hkeep⟩ := boxDrew w w2 (.int .i64 V0) (.int .i64 V1) (.bool A) (.bool B) hB2
      rw [← hw3]
      have hz3 := hkeep _ _ _ hr2
      clear c0 c1 c2 c3 hne hw3 hkeep hB2 hr2
      obtain ⟨k0, k1, k2, k3⟩ := hr3.four
      go_wp2_with fail
      refine (HM.out _).mono ?_
      rintro e w4 ⟨rfl, hb4⟩
      have hr4 := hr3.below hb4 hr3.lt
      have hz4 := hz3.below hb4 hz3.lt
      have hB4 := hB3.trans (hb4.mono hB3.size)
      clear k0 k1 k2 k3 hr3 hz3 hB3 hb4
      obtain ⟨k0, k1, k2, k3⟩ := hr4.four
      obtain ⟨z0, z1, z2, z3⟩ := hz4.four
      have f0 := hz4.frozen 0
      have f1 := hz4.frozen 1
      have f2 := hz4.frozen 2
      have f3 := hz4.frozen 3
      go_wp2_with fail
      obtain ⟨w5, hw5, hr5, hB5⟩ := setFour (.int .i64 0) (.int .i64 0) (.bool false) (.bool false) hz4 hB4 (Nat.le_refl _)
      rw [← hw5]
      clear hw5 k0 k1 k2 k3 z0 z1 z2 z3 f0 f1 f2 f3 hr4 hz4 hB4
      refine bodyPost_ret (res2 rfl _ _ _ _ _ _ _ rfl hr5) rfl ?_
      exact ⟨rfl, hB5⟩
  · have hE : isEnt x = false := by
      cases h : isEnt x with
      | false => rfl
      | true => have := isEnt_yes h; omega
    obtain ⟨y1, y2, y3, y4, y5⟩ := hz hE
    rw [y1, y2, y3, y4, y5]
    have HU : Hid (∀ (q : Option Addr) (w : World), IntsAt w q Ws → Calls Try.prog 26 #[.slice q 4 4, .int .u64 x] w fun e w' => e = .returned (.tuple #[.slice none 0 0, .int .i64 1]) ∧ w' = w) :=
      fun q w h => punb_no q x w (by omega) h
    clear hy hz y1 y2 y3 y4 y5 hE hx
    go_enter Try.func12, Try.ntmps12
    go_wp2_with fail
    refine (pwidthsQ _).mono ?_
    rintro e w1 ⟨q, rfl, hi, hb1⟩
    have hz4 : RowAt w1 w.heap.size 24 [.int .i64 0, .int .i64 0, .bool false, .bool false] := (RowAt.new w #[.int .i64 0, .int .i64 0, .bool false, .bool false] 24).below hb1 (by simp)
    have hB4 := HB0.out.trans (hb1.mono HB0.out.size)
    clear hb1
    go_wp2_with fail
    refine (HU.out _ _ hi).mono ?_
    rintro e w4 ⟨rfl, rfl⟩
    clear hi
    obtain ⟨z0, z1, z2, z3⟩ := hz4.four
    have f0 := hz4.frozen 0
    have f1 := hz4.frozen 1
    have f2 := hz4.frozen 2
    have f3 := hz4.frozen 3
    go_wp2_with fail
    obtain ⟨w5, hw5, hr5, hB5⟩ := setFour (.int .i64 0) (.int .i64 0) (.bool false) (.bool false) hz4 hB4 (Nat.le_refl _)
    rw [← hw5]
    clear hw5 z0 z1 z2 z3 f0 f1 f2 f3 hz4 hB4
    refine bodyPost_ret (res2 rfl _ _ _ _ _ _ _ rfl hr5) rfl ?_
    exact ⟨rfl, hB5⟩
end Go.Proofs.Ytlpbpibjofepjaa
