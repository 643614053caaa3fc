/-
  Shadows as words: the contracts of round, isGroup, Look, Distance, Working, Make, and of the document's Look, Distance, Make.
-/
import Derived.Test.YtgnobaenlcbfjaaBack
import Derived.Test.YtgnobaenlcbfjaaSMath
import Derived.Laws.BitsAllLaws
namespace Go.Proofs.Ytgnobaenlcbfjaa
open Go.RowKit

theorem and_i64 (c : Int) : wrap64 (bits .and .u64 (IntKind.u64.wrap c) 1099511627775) = c % 1099511627776 := by
  have h1 : IntKind.u64.wrap c = c % 18446744073709551616 := by rw [IntKind.wrap_u64]
  rw [h1]
  obtain ⟨n, hn⟩ := Int.eq_ofNat_of_zero_le (show 0 ≤ c % 18446744073709551616 by omega)
  rw [hn]
  have h2 : n < 18446744073709551616 := by omega
  have h3 := u64_and_nat n 1099511627775 h2 (by decide)
  have h4 : n &&& 1099511627775 = n % 1099511627776 := Nat.and_two_pow_sub_one_eq_mod n 40
  rw [h4] at h3
  rw [show ((1099511627775 : Int)) = ((1099511627775 : Nat) : Int) from rfl, h3]
  have h5 : wrap64 ((n % 1099511627776 : Nat) : Int) = ((n % 1099511627776 : Nat) : Int) := by
    have := IntKind.wrap_i64 ((n % 1099511627776 : Nat) : Int)
    unfold wrap64
    omega
  rw [h5]
  omega
theorem pround (c : Int) (w : World) : Calls Try.prog 25 #[.int .i64 c] w fun e w' => e = .returned (.int .i64 (c % 1099511627776)) ∧ w' = w := by
  have H := and_i64 c
  go_enter Try.func25, Try.ntmps25
  go_wp2
  go_ret
  refine ⟨?_, rfl⟩
  rw [← H]
  rfl
theorem and_one (x : Nat) (hx : x < 18446744073709551616) : bits .and .u64 (x : Int) 1 = ((x % 2 : Nat) : Int) := by
  have h := u64_and_nat x 1 hx (by decide)
  rw [Nat.and_one_is_mod] at h
  exact h
theorem and_255 (x : Nat) (hx : x < 18446744073709551616) : wrap64 (bits .and .u64 ((x : Int) / 2) 255) = ((x / 2 % 256 : Nat) : Int) := by
  have h := u64_and_nat (x / 2) 255 (by omega) (by decide)
  rw [Nat.and_two_pow_sub_one_eq_mod (x / 2) 8] at h
  have e : ((x / 2 : Nat) : Int) = (x : Int) / 2 := by omega
  rw [e] at h
  rw [show ((255 : Int)) = ((255 : Nat) : Int) from rfl, h]
  have := IntKind.wrap_i64 ((x / 2 % 256 : Nat) : Int)
  unfold wrap64
  omega
theorem plook (x : Nat) (w : World) (hx : x < 18446744073709551616) : Calls Try.prog 9 #[.int .u64 x] w fun e w' => e = .returned (.tuple #[.int .i64 (gS x), .int .i64 (cS x), .bool (isS x)]) ∧ w' = w := by
  have HA : Hid (bits .and .u64 (x : Int) 1 = ((x % 2 : Nat) : Int)) := and_one x hx
  have HB : Hid (wrap64 (bits .and .u64 ((x : Int) / 2) 255) = ((x / 2 % 256 : Nat) : Int)) := and_255 x hx
  have HI : Hid (isS x = true ↔ x % 2 = 1 ∧ x < 562949953421312) := isS_iff x
  by_cases h1 : x % 2 = 0
  · have hI : isS x = false := by cases h : isS x with
      | false => rfl
      | true => have := HI.out.1 h; omega
    have HG : Hid (gS x = 0) := gS_none hI
    have HC : Hid (cS x = 0) := cS_none hI
    have hA : bits .and .u64 (x : Int) 1 = 0 := by rw [HA.out, h1]; rfl
    go_enter Try.func9, Try.ntmps9
    go_wp2
    go_ret3
    refine ⟨?_, rfl⟩
    rw [HG.out, HC.out, hI]
    rfl
  · have hA : bits .and .u64 (x : Int) 1 = 1 := by rw [HA.out]; omega
    by_cases h2 : x < 562949953421312
    · have hI : isS x = true := HI.out.2 ⟨by omega, h2⟩
      have HG : Hid (gS x = ((x / 2 % 256 : Nat) : Int)) := gS_is hI
      have HC : Hid (cS x = ((x / 512 : Nat) : Int)) := cS_is hI
      have hB : (x : Int) / 562949953421312 = 0 := by omega
      go_enter Try.func9, Try.ntmps9
      go_wp2
      go_ret3
      refine ⟨?_, rfl⟩
      rw [HG.out, HC.out, hI, ← HB.out]
      rfl
    · have hI : isS x = false := by cases h : isS x with
        | false => rfl
        | true => have := HI.out.1 h; omega
      have HG : Hid (gS x = 0) := gS_none hI
      have HC : Hid (cS x = 0) := cS_none hI
      have hB : ((x : Int) / 562949953421312 != 0) = true := by simp; omega
      go_enter Try.func9, Try.ntmps9
      go_wp2
      go_ret3
      refine ⟨?_, rfl⟩
      rw [HG.out, HC.out, hI]
      rfl
theorem rlook (x : Nat) (w : World) (hx : x < 18446744073709551616) : Calls Try.prog 10 #[.int .u64 x] w fun e w' => e = .returned (.tuple #[.int .i64 (gS x), .int .i64 (cS x), .bool (isS x)]) ∧ w' = w := by
  have HI : Hid (isS x = true ↔ x % 2 = 1 ∧ x < 562949953421312) := isS_iff x
  by_cases h1 : x % 2 = 0
  · have hI : isS x = false := by cases h : isS x with
      | false => rfl
      | true => have := HI.out.1 h; omega
    have HG : Hid (gS x = 0) := gS_none hI
    have HC : Hid (cS x = 0) := cS_none hI
    have hA : ((x : Int) % 2 == 0) = true := by simp; omega
    clear h1
    go_enter Try.func10, Try.ntmps10
    go_wp2
    go_ret3
    refine ⟨?_, rfl⟩
    rw [HG.out, HC.out, hI]
    rfl
  · have hA : ((x : Int) % 2 == 0) = false := by simp; omega
    by_cases h2 : x < 562949953421312
    · have hI : isS x = true := HI.out.2 ⟨by omega, h2⟩
      have HG : Hid (gS x = ((x / 2 % 256 : Nat) : Int)) := gS_is hI
      have HC : Hid (cS x = ((x / 512 : Nat) : Int)) := cS_is hI
      have hB : decide (1099511627776 ≤ (x : Int) / 512) = false := by simp; omega
      clear h1 h2
      go_enter Try.func10, Try.ntmps10
      go_wp2
      go_ret3
      refine ⟨?_, rfl⟩
      rw [HG.out, HC.out, hI, show ((x / 2 % 256 : Nat) : Int) = (x : Int) / 2 % 256 by omega, show ((x / 512 : Nat) : Int) = (x : Int) / 512 by omega]
      rfl
    · have hI : isS x = false := by cases h : isS x with
        | false => rfl
        | true => have := HI.out.1 h; omega
      have HG : Hid (gS x = 0) := gS_none hI
      have HC : Hid (cS x = 0) := cS_none hI
      have hB : decide (1099511627776 ≤ (x : Int) / 512) = true := by simp; omega
      clear h1 h2
      go_enter Try.func10, Try.ntmps10
      go_wp2
      go_ret3
      refine ⟨?_, rfl⟩
      rw [HG.out, HC.out, hI]
      rfl
theorem pgrp (x : Int) (w : World) : Calls Try.prog 26 #[.int .i64 x] w fun e w' => e = .returned (.bool (decide (0 ≤ x ∧ x ≤ 63))) ∧ w' = w := by
  by_cases h : 0 ≤ x
  · go_enter Try.func26, Try.ntmps26
    go_wp2
    go_ret
    refine ⟨?_, rfl⟩
    have : decide (0 ≤ x ∧ x ≤ 63) = decide (x < 64) := decide_eq_decide.2 (by omega)
    rw [this]
    rfl
  · have hd : decide (0 ≤ x) = false := by simp; omega
    go_enter Try.func26, Try.ntmps26
    go_wp2
    go_ret
    exact ⟨rfl, rfl⟩

theorem HLk : Hid (∀ (x : Nat) (w : World), x < 18446744073709551616 → Calls Try.prog 9 #[.int .u64 x] w fun e w' => e = .returned (.tuple #[.int .i64 (gS x), .int .i64 (cS x), .bool (isS x)]) ∧ w' = w) := plook
theorem HRd : Hid (∀ (c : Int) (w : World), Calls Try.prog 25 #[.int .i64 c] w fun e w' => e = .returned (.int .i64 (c % 1099511627776)) ∧ w' = w) := pround
theorem pdist (x : Nat) (c : Int) (w : World) (hx : x < 18446744073709551616) (hc : c ≤ 9223372036854775807) : Calls Try.prog 14 #[.int .u64 x, .int .i64 c] w fun e w' => e = .returned (.int .i64 (dS x c)) ∧ w' = w := by
  obtain ⟨G, hG⟩ : ∃ G, G = gS x := ⟨_, rfl⟩
  obtain ⟨C, hC⟩ : ∃ C, C = cS x := ⟨_, rfl⟩
  obtain ⟨S, hS⟩ : ∃ S, S = isS x := ⟨_, rfl⟩
  have HL : Hid (∀ w, Calls Try.prog 9 #[.int .u64 x] w fun e w' => e = .returned (.tuple #[.int .i64 G, .int .i64 C, .bool S]) ∧ w' = w) := by
    intro w; rw [hG, hC, hS]; exact plook x w hx
  have HR := HRd
  have hb := cS_bounds x
  rw [← hC] at hb
  obtain ⟨b0, b1⟩ := hb
  cases S with
  | false =>
    have HD : Hid (dS x c = -1) := dS_none (by rw [← hS]; simp)
    clear hG hC hS
    go_enter Try.func14, Try.ntmps14
    go_wp2_with (go_at_call 9; refine (HL.out _).mono ?_; rintro e w' ⟨rfl, rfl⟩)
    go_ret
    exact ⟨by rw [HD.out]; rfl, rfl⟩
  | true =>
    by_cases h : 0 ≤ c
    · have HD : Hid (dS x c = (c - C) % 1099511627776) := by rw [hC]; exact dS_is hS.symm h
      have hw : wrap64 (c - C) = c - C := by have := IntKind.wrap_i64 (c - C); unfold wrap64; omega
      clear hG hC hS
      go_enter Try.func14, Try.ntmps14
      go_wp2_with (first | (go_at_call 9; refine (HL.out _).mono ?_; rintro e w' ⟨rfl, rfl⟩) | (go_at_call 25; refine (HR.out _ _).mono ?_; rintro e w' ⟨rfl, rfl⟩))
      go_ret
      exact ⟨by rw [HD.out]; rfl, rfl⟩
    · have HD : Hid (dS x c = -1) := dS_none (fun h1 => h h1.2)
      have hd : decide (c < 0) = true := by simp; omega
      clear hG hC hS
      go_enter Try.func14, Try.ntmps14
      go_wp2_with (go_at_call 9; refine (HL.out _).mono ?_; rintro e w' ⟨rfl, rfl⟩)
      go_ret
      exact ⟨by rw [HD.out]; rfl, rfl⟩
theorem rdist (x : Nat) (c : Int) (w : World) (hx : x < 18446744073709551616) (hc : c ≤ 9223372036854775807) : Calls Try.prog 11 #[.int .u64 x, .int .i64 c] w fun e w' => e = .returned (.int .i64 (dS x c)) ∧ w' = w := by
  obtain ⟨G, hG⟩ : ∃ G, G = gS x := ⟨_, rfl⟩
  obtain ⟨C, hC⟩ : ∃ C, C = cS x := ⟨_, rfl⟩
  obtain ⟨S, hS⟩ : ∃ S, S = isS x := ⟨_, rfl⟩
  have HL : Hid (∀ w, Calls Try.prog 10 #[.int .u64 x] w fun e w' => e = .returned (.tuple #[.int .i64 G, .int .i64 C, .bool S]) ∧ w' = w) := by
    intro w; rw [hG, hC, hS]; exact rlook x w hx
  have hb := cS_bounds x
  rw [← hC] at hb
  obtain ⟨b0, b1⟩ := hb
  cases S with
  | false =>
    have HD : Hid (dS x c = -1) := dS_none (by rw [← hS]; simp)
    clear hG hC hS
    go_enter Try.func11, Try.ntmps11
    go_wp2_with (go_at_call 10; refine (HL.out _).mono ?_; rintro e w' ⟨rfl, rfl⟩)
    go_ret
    exact ⟨by rw [HD.out]; rfl, rfl⟩
  | true =>
    by_cases h : 0 ≤ c
    · have HD : Hid (dS x c = (c % 1099511627776 - C + 1099511627776) % 1099511627776) := by rw [hC]; exact dS_doc hS.symm h
      clear hG hC hS
      go_enter Try.func11, Try.ntmps11
      go_wp2_with (go_at_call 10; refine (HL.out _).mono ?_; rintro e w' ⟨rfl, rfl⟩)
      go_ret
      refine ⟨?_, rfl⟩
      rw [HD.out]
      rfl
    · have HD : Hid (dS x c = -1) := dS_none (fun h1 => h h1.2)
      have hd : decide (c < 0) = true := by simp; omega
      clear hG hC hS
      go_enter Try.func11, Try.ntmps11
      go_wp2_with (go_at_call 10; refine (HL.out _).mono ?_; rintro e w' ⟨rfl, rfl⟩)
      go_ret
      exact ⟨by rw [HD.out]; rfl, rfl⟩
theorem pwork (x : Nat) (c r : Int) (w : World) (hx : x < 18446744073709551616) (hc : c ≤ 9223372036854775807) : Calls Try.prog 15 #[.int .u64 x, .int .i64 c, .int .i64 r] w fun e w' => e = .returned (.bool (nearS x c r)) ∧ w' = w := by
  have HN : Hid (nearS x c r = (decide (0 ≤ dS x c) && decide (dS x c ≤ r))) := by unfold nearS; exact Bool.decide_and _ _
  obtain ⟨D, hD⟩ : ∃ D, D = dS x c := ⟨_, rfl⟩
  have HL : Hid (∀ w, Calls Try.prog 14 #[.int .u64 x, .int .i64 c] w fun e w' => e = .returned (.int .i64 D) ∧ w' = w) := by
    intro w; rw [hD]; exact pdist x c w hx hc
  rw [← hD] at HN
  clear hD
  by_cases h : 0 ≤ D
  · go_enter Try.func15, Try.ntmps15
    go_wp2_with (go_at_call 14; refine (HL.out _).mono ?_; rintro e w' ⟨rfl, rfl⟩)
    go_ret
    refine ⟨?_, rfl⟩
    rw [HN.out, decide_eq_true h]
    rfl
  · have hd : decide (0 ≤ D) = false := by simp; omega
    go_enter Try.func15, Try.ntmps15
    go_wp2_with (go_at_call 14; refine (HL.out _).mono ?_; rintro e w' ⟨rfl, rfl⟩)
    go_ret
    refine ⟨?_, rfl⟩
    rw [HN.out, hd]
    rfl
end Go.Proofs.Ytgnobaenlcbfjaa
