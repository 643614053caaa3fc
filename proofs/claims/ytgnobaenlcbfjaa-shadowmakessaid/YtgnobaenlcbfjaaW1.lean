/-
  Contracts of package bits' functions that make no memory, each walked over the translation: digitWidth, ones, power, span, widths.
-/
import Derived.Test.YtgnobaenlcbfjaaRows
import Derived.Test.YtgnobaenlcbfjaaMath
namespace Go.Proofs.Ytgnobaenlcbfjaa
open Go.RowKit
theorem ones_any (a : Int) (w : World) (h0 : 0 ≤ a) (h1 : a ≤ 63) :
    Calls Try.prog 28 #[.int .i64 a] w fun e w' => e = .returned (.int .u64 (2 ^ a.toNat - 1)) ∧ w' = w := by
  go_enter Try.func28, Try.ntmps28
  go_wp2
  go_ret
  exact ⟨by simp [ones_val a h0 h1], rfl⟩

set_option maxHeartbeats 400000 in
theorem span_yes (a : Option Addr) (cap : Nat) (l : List Int) (w : World) (hl : l.length ≤ 9223372036854775807) (hc : IntsAt w a l) (hs : SpanOk l) :
    Calls Try.prog 27 #[.slice a l.length cap] w fun e w' => e = .returned (.tuple #[.int .i64 l.sum, .bool true]) ∧ w' = w := by
  go_enter Try.func27, Try.ntmps27
  go_wp2
  go_loop [4, 9] (fun x i => ∃ k : Nat, k ≤ l.length ∧ i = .int .i64 k ∧ x = .int .i64 (l.take k).sum) (fun _ i => l.length - (intOf i).toNat)
  case atStart => exact ⟨0, by omega, rfl, rfl⟩
  case round =>
    obtain ⟨k, hk, rfl, rfl⟩ := hrel
    by_cases hlt : k < l.length
    · obtain ⟨b, off, rfl, hcell⟩ := hc k hlt
      obtain ⟨h0, h1, h2⟩ := hs k hlt
      have h3 := sum_nonneg (fun k h => (hs k h).1) k hk
      have HS : Hid ((l.take (k + 1)).sum = (l.take k).sum + l[k]) := sum_take_succ l k hlt
      go_wp2
      go_round
      case rel => exact ⟨k + 1, by omega, by go_num, by rw [HS.out]⟩
      case measure => simp [intOf]; omega
    · obtain rfl : k = l.length := by omega
      go_wp2
      go_ret2
      exact ⟨by simp, rfl⟩

set_option maxHeartbeats 400000 in
theorem span_no (a : Option Addr) (cap : Nat) (l : List Int) (w : World) (hl : l.length ≤ 9223372036854775807) (hc : IntsAt w a l) (hs : ¬ SpanOk l) :
    Calls Try.prog 27 #[.slice a l.length cap] w fun e w' => e = .returned (.tuple #[.int .i64 0, .bool false]) ∧ w' = w := by
  go_enter Try.func27, Try.ntmps27
  go_wp2
  go_loop [4, 9] (fun x i => ∃ k : Nat, k ≤ l.length ∧ i = .int .i64 k ∧ x = .int .i64 (l.take k).sum ∧ 0 ≤ (l.take k).sum ∧ (l.take k).sum ≤ 64 ∧ ∀ j (h : j < l.length), j < k → 0 ≤ l[j] ∧ l[j] ≤ 62 ∧ (l.take j).sum + l[j] ≤ 64) (fun _ i => l.length - (intOf i).toNat)
  case atStart => exact ⟨0, by omega, rfl, rfl, by simp, by simp, fun _ _ h => by omega⟩
  case round =>
    obtain ⟨k, hk, rfl, rfl, h3, h4, hp⟩ := hrel
    by_cases hlt : k < l.length
    · obtain ⟨b, off, rfl, hcell⟩ := hc k hlt
      have HP : Hid (∀ j (h : j < l.length), j < k → 0 ≤ l[j] ∧ l[j] ≤ 62 ∧ (l.take j).sum + l[j] ≤ 64) := hp
      clear hp
      have HS : Hid ((l.take (k + 1)).sum = (l.take k).sum + l[k]) := sum_take_succ l k hlt
      by_cases h0 : 0 ≤ l[k]
      · by_cases h1 : l[k] ≤ 62
        · by_cases h2 : (l.take k).sum + l[k] ≤ 64
          · go_wp2
            go_round
            case rel =>
              refine ⟨k + 1, by omega, by go_num, by rw [HS.out], by rw [HS.out]; omega, by rw [HS.out]; omega, fun j hj hjk => ?_⟩
              by_cases e : j = k
              · subst e; exact ⟨h0, h1, h2⟩
              · exact HP.out j hj (by omega)
            case measure => simp [intOf]; omega
          · go_wp2
            go_ret2
            exact ⟨rfl, rfl⟩
        · go_wp2
          go_ret2
          exact ⟨rfl, rfl⟩
      · go_wp2
        go_ret2
        exact ⟨rfl, rfl⟩
    · obtain rfl : k = l.length := by omega
      exact absurd (fun j hj => hp j hj hj) hs


end Go.Proofs.Ytgnobaenlcbfjaa
