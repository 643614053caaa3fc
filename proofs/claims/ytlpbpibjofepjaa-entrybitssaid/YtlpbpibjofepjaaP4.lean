/-
  The contracts of entry.Touch, Rest and Write; the document's example.
-/
import Derived.Test.YtlpbpibjofepjaaP3
namespace Go.Proofs.Ytlpbpibjofepjaa
open Go.RowKit

theorem zero_no (x : Nat) : eqE (eK x) (eP x) (eW x) (eT x) 0 0 false false = !(isEnt x && x != 0) := by
  cases h : isEnt x with
  | false => simp [eqE, eK, eP, eW, eT, h]
  | true =>
    have := isEnt_yes h
    by_cases hz : x = 0
    · subst hz; decide
    · have hk : eK x = ((x % 4 : Nat) : Int) := by simp [eK, h]
      have : (eK x == 0) = false := by rw [hk]; simp; omega
      simp [eqE, this, hz]

set_option maxHeartbeats 4000000 in
theorem pturn26 (x : Nat) (on : Bool) (w : World) (hx : x < 18446744073709551616) :
    Calls Try.prog 28 #[.int .u64 x, .int .u64 26, .bool on] w fun e w' => e = .returned (.int .u64 (turnX x 26 on)) ∧ Below w.heap.size w w' := by
  have hq := zero_no x
  have hU : ∀ w, Calls Try.prog 12 #[.int .u64 x] w fun e w' => e = .returned (.tuple #[.agg #[.int .i64 (eK x), .int .i64 (eP x), .bool (eW x), .bool (eT x)], .int .i64 (eE x)]) ∧ Below w.heap.size w w' := punpack x
  have hT : turnX x 26 on = if (isEnt x && x != 0) = true then setb x 26 on else x := rfl
  have hv := turn_val x 26 on hx (by decide)
  rw [hT]
  obtain ⟨K, hK⟩ : ∃ K, K = eK x := ⟨_, rfl⟩
  obtain ⟨P, hP⟩ : ∃ K, K = eP x := ⟨_, rfl⟩
  obtain ⟨A, hA⟩ : ∃ K, K = eW x := ⟨_, rfl⟩
  obtain ⟨B, hB⟩ : ∃ K, K = eT x := ⟨_, rfl⟩
  obtain ⟨E, hE⟩ : ∃ K, K = eE x := ⟨_, rfl⟩
  rw [← hK, ← hP, ← hA, ← hB] at hq hU
  rw [← hE] at hU
  have HU := (show Hid _ from hU)
  have hqq := fun w => eq24 K P A B 0 0 false false w
  have hgt := guard24
  rw [hq] at hqq
  clear hU hK hP hA hB hE hq hT
  cases hc : (isEnt x && x != 0) with
  | false =>
    rw [hc] at hqq
    clear hv hc
    go_enter Try.func28, Try.ntmps28
    go_wp2_with fail
    refine (HU.out _).mono ?_
    rintro e w1 ⟨rfl, hb1⟩
    go_wp2_with fail
    go_ret
    exact ⟨rfl, hb1.trans ((below_alloc _ _).mono hb1.size)⟩
  | true =>
    rw [hc] at hqq
    clear hc
    obtain ⟨Y, hY⟩ : ∃ Y, Y = setb x 26 on := ⟨_, rfl⟩
    rw [if_pos rfl, ← hY]
    rw [← hY] at hv
    clear hY
    cases on with
    | false =>
      have hv2 : bits .or .u64 (bits .andNot .u64 (x : Int) 67108864) 0 = (Y : Int) := hv
      clear hv
      go_enter Try.func28, Try.ntmps28
      go_wp2_with fail
      refine (HU.out _).mono ?_
      rintro e w1 ⟨rfl, hb1⟩
      go_wp2_with fail
      refine (pflag _ _).mono ?_
      rintro e w2 ⟨rfl, rfl⟩
      go_wp2_with fail
      go_ret
      exact ⟨by rw [← hv2]; rfl, hb1.trans ((below_alloc _ _).mono hb1.size)⟩
    | true =>
      have hv2 : bits .or .u64 (bits .andNot .u64 (x : Int) 67108864) 67108864 = (Y : Int) := hv
      clear hv
      go_enter Try.func28, Try.ntmps28
      go_wp2_with fail
      refine (HU.out _).mono ?_
      rintro e w1 ⟨rfl, hb1⟩
      go_wp2_with fail
      refine (pflag _ _).mono ?_
      rintro e w2 ⟨rfl, rfl⟩
      go_wp2_with fail
      go_ret
      exact ⟨by rw [← hv2]; rfl, hb1.trans ((below_alloc _ _).mono hb1.size)⟩

set_option maxHeartbeats 4000000 in
theorem pturn27 (x : Nat) (on : Bool) (w : World) (hx : x < 18446744073709551616) :
    Calls Try.prog 28 #[.int .u64 x, .int .u64 27, .bool on] w fun e w' => e = .returned (.int .u64 (turnX x 27 on)) ∧ Below w.heap.size w w' := by
  have hq := zero_no x
  have hU : ∀ w, Calls Try.prog 12 #[.int .u64 x] w fun e w' => e = .returned (.tuple #[.agg #[.int .i64 (eK x), .int .i64 (eP x), .bool (eW x), .bool (eT x)], .int .i64 (eE x)]) ∧ Below w.heap.size w w' := punpack x
  have hT : turnX x 27 on = if (isEnt x && x != 0) = true then setb x 27 on else x := rfl
  have hv := turn_val x 27 on hx (by decide)
  rw [hT]
  obtain ⟨K, hK⟩ : ∃ K, K = eK x := ⟨_, rfl⟩
  obtain ⟨P, hP⟩ : ∃ K, K = eP x := ⟨_, rfl⟩
  obtain ⟨A, hA⟩ : ∃ K, K = eW x := ⟨_, rfl⟩
  obtain ⟨B, hB⟩ : ∃ K, K = eT x := ⟨_, rfl⟩
  obtain ⟨E, hE⟩ : ∃ K, K = eE x := ⟨_, rfl⟩
  rw [← hK, ← hP, ← hA, ← hB] at hq hU
  rw [← hE] at hU
  have HU := (show Hid _ from hU)
  have hqq := fun w => eq24 K P A B 0 0 false false w
  have hgt := guard24
  rw [hq] at hqq
  clear hU hK hP hA hB hE hq hT
  cases hc : (isEnt x && x != 0) with
  | false =>
    rw [hc] at hqq
    clear hv hc
    go_enter Try.func28, Try.ntmps28
    go_wp2_with fail
    refine (HU.out _).mono ?_
    rintro e w1 ⟨rfl, hb1⟩
    go_wp2_with fail
    go_ret
    exact ⟨rfl, hb1.trans ((below_alloc _ _).mono hb1.size)⟩
  | true =>
    rw [hc] at hqq
    clear hc
    obtain ⟨Y, hY⟩ : ∃ Y, Y = setb x 27 on := ⟨_, rfl⟩
    rw [if_pos rfl, ← hY]
    rw [← hY] at hv
    clear hY
    cases on with
    | false =>
      have hv2 : bits .or .u64 (bits .andNot .u64 (x : Int) 134217728) 0 = (Y : Int) := hv
      clear hv
      go_enter Try.func28, Try.ntmps28
      go_wp2_with fail
      refine (HU.out _).mono ?_
      rintro e w1 ⟨rfl, hb1⟩
      go_wp2_with fail
      refine (pflag _ _).mono ?_
      rintro e w2 ⟨rfl, rfl⟩
      go_wp2_with fail
      go_ret
      exact ⟨by rw [← hv2]; rfl, hb1.trans ((below_alloc _ _).mono hb1.size)⟩
    | true =>
      have hv2 : bits .or .u64 (bits .andNot .u64 (x : Int) 134217728) 134217728 = (Y : Int) := hv
      clear hv
      go_enter Try.func28, Try.ntmps28
      go_wp2_with fail
      refine (HU.out _).mono ?_
      rintro e w1 ⟨rfl, hb1⟩
      go_wp2_with fail
      refine (pflag _ _).mono ?_
      rintro e w2 ⟨rfl, rfl⟩
      go_wp2_with fail
      go_ret
      exact ⟨by rw [← hv2]; rfl, hb1.trans ((below_alloc _ _).mono hb1.size)⟩
end Go.Proofs.Ytlpbpibjofepjaa
