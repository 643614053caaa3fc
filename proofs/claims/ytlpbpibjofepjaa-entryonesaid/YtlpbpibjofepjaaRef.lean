/-
  Contracts of the document's own answers on fields and digits: power, widths, Join, Digits.
-/
import Derived.Test.YtlpbpibjofepjaaOwn
namespace Go.Proofs.Ytlpbpibjofepjaa
open Go.RowKit
def pow64 (n : Nat) : Nat := 2 ^ n % 18446744073709551616
theorem pow64_small {n : Nat} (h : n ≤ 63) : pow64 n = 2 ^ n := by
  unfold pow64
  apply Nat.mod_eq_of_lt
  have : 2 ^ n ≤ 2 ^ 63 := pow_le h
  omega
theorem pow64_succ (n : Nat) : IntKind.u64.wrap ((pow64 n : Int) * 2) = (pow64 (n + 1) : Int) := by
  unfold pow64
  rw [IntKind.wrap_u64, Nat.pow_succ]
  generalize 2 ^ n = p
  omega

set_option maxHeartbeats 400000 in
theorem power_any (n : Nat) (w : World) (h1 : n ≤ 64) :
    Calls Try.prog 33 #[.int .i64 n] w fun e w' => e = .returned (.int .u64 (pow64 n)) ∧ w' = w := by
  go_enter Try.func33, Try.ntmps33
  go_wp2
  go_loop [3, 4] (fun x i => ∃ k : Nat, k ≤ n ∧ i = .int .i64 k ∧ ∃ X : Nat, x = .int .u64 X ∧ Hid (X = pow64 k)) (fun _ i => n - (intOf i).toNat)
  case atStart => exact ⟨0, by omega, rfl, 1, rfl, rfl⟩
  case round =>
    obtain ⟨k, hk, rfl, X, rfl, HX⟩ := hrel
    by_cases hlt : k < n
    · obtain ⟨Y, hY⟩ : ∃ Y, Y = pow64 (k + 1) := ⟨_, rfl⟩
      have hs := pow64_succ k
      rw [← hY, ← HX.out] at hs
      have HY : Hid (Y = pow64 (k + 1)) := hY
      clear hY
      go_wp2
      go_round
      case rel => exact ⟨k + 1, by omega, by go_num, Y, rfl, HY.out⟩
      case measure => simp [intOf]; omega
    · obtain rfl : k = n := by omega
      go_wp2
      go_ret
      exact ⟨by rw [← HX.out]; rfl, rfl⟩

theorem power_int (n : Int) (w : World) (h0 : 0 ≤ n) (h1 : n ≤ 63) :
    Calls Try.prog 33 #[.int .i64 n] w fun e w' => e = .returned (.int .u64 ((2 ^ n.toNat : Nat) : Int)) ∧ w' = w := by
  obtain ⟨m, rfl⟩ := Int.eq_ofNat_of_zero_le h0
  have := power_any m w (by omega)
  rw [pow64_small (by omega)] at this
  exact this

set_option maxHeartbeats 400000 in
theorem widths_yes (a : Option Addr) (cap : Nat) (l : List Int) (w : World) (hl : l.length ≤ 9223372036854775806) (hc : IntsAt w a l) (hs : SpanOk l) :
    Calls Try.prog 32 #[.slice a l.length cap] w fun e w' => e = .returned (.bool true) ∧ w' = w := by
  go_enter Try.func32, Try.ntmps32
  go_wp2
  go_loop [3, 4] (fun x i => ∃ k : Nat, k ≤ l.length ∧ i = .int .i64 k ∧ x = .int .i64 (l.take k).sum) (fun _ i => l.length - (intOf i).toNat)
  case atStart => exact ⟨0, by omega, rfl, rfl⟩
  case round =>
    obtain ⟨k, hk, rfl, rfl⟩ := hrel
    by_cases hlt : k < l.length
    · obtain ⟨b, off, rfl, hcell⟩ := hc k hlt
      obtain ⟨h0, h1, h2⟩ := hs k hlt
      have h3 := sum_nonneg (fun k h => (hs k h).1) k hk
      have HS : Hid ((l.take (k + 1)).sum = (l.take k).sum + l[k]) := sum_take_succ l k hlt
      go_wp2
      go_round
      case rel => exact ⟨k + 1, by omega, by go_num, by rw [HS.out]⟩
      case measure => simp [intOf]; omega
    · go_wp2
      go_ret
      exact ⟨rfl, rfl⟩

set_option maxHeartbeats 400000 in
theorem widths_no (a : Option Addr) (cap : Nat) (l : List Int) (w : World) (hl : l.length ≤ 9223372036854775806) (hc : IntsAt w a l) (hs : ¬ SpanOk l) :
    Calls Try.prog 32 #[.slice a l.length cap] w fun e w' => e = .returned (.bool false) ∧ w' = w := by
  have HSP : Hid (¬ SpanOk l) := hs
  clear hs
  go_enter Try.func32, Try.ntmps32
  go_wp2
  go_loop [3, 4] (fun x i => ∃ k : Nat, k ≤ l.length ∧ i = .int .i64 k ∧ x = .int .i64 (l.take k).sum ∧ 0 ≤ (l.take k).sum ∧ (l.take k).sum ≤ 64 ∧ Hid (∀ j (h : j < l.length), j < k → 0 ≤ l[j] ∧ l[j] ≤ 62 ∧ (l.take j).sum + l[j] ≤ 64)) (fun _ i => l.length - (intOf i).toNat)
  case atStart => exact ⟨0, by omega, rfl, rfl, by simp, by simp, fun _ _ h => by omega⟩
  case round =>
    obtain ⟨k, hk, rfl, rfl, h3, h4, HP⟩ := hrel
    by_cases hlt : k < l.length
    · obtain ⟨b, off, rfl, hcell⟩ := hc k hlt
      have HS : Hid ((l.take (k + 1)).sum = (l.take k).sum + l[k]) := sum_take_succ l k hlt
      by_cases h0 : 0 ≤ l[k]
      · by_cases h1 : l[k] ≤ 62
        · by_cases h2 : (l.take k).sum + l[k] ≤ 64
          · go_wp2
            go_round
            case rel =>
              refine ⟨k + 1, by omega, by go_num, by rw [HS.out], by rw [HS.out]; omega, by rw [HS.out]; omega, fun j hj hjk => ?_⟩
              by_cases e : j = k
              · subst e; exact ⟨h0, h1, h2⟩
              · exact HP.out j hj (by omega)
            case measure => simp [intOf]; omega
          · go_wp2
            go_ret
            exact ⟨rfl, rfl⟩
        · go_wp2
          go_ret
          exact ⟨rfl, rfl⟩
      · go_wp2
        go_ret
        exact ⟨rfl, rfl⟩
    · obtain rfl : k = l.length := by omega
      exact absurd (fun j hj => HP.out j hj hj) HSP.out


end Go.Proofs.Ytlpbpibjofepjaa
