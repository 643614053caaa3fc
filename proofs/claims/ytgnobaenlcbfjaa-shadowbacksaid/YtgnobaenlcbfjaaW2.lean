/-
  Contracts of bits.Join, bits.Pack and the document's power, each walked over the translation.
-/
import Derived.Test.YtgnobaenlcbfjaaW1
namespace Go.Proofs.Ytgnobaenlcbfjaa
open Go.RowKit
theorem u64_congr {a b : Int} (h : a = b) : Value.int .u64 a = Value.int .u64 b := by rw [h]
theorem i64_congr {a b : Int} (h : a = b) : Value.int .i64 a = Value.int .i64 b := by rw [h]

set_option maxHeartbeats 400000 in
theorem pack_yes (a a' : Option Addr) (cap cap' : Nat) (ws vs : List Int) (w : World) (hl : ws.length ≤ 9223372036854775807) (hlen : ws.length = vs.length)
    (hc : IntsAt w a ws) (hc' : IntsAt w a' vs) (hi : I64s vs) (hs : SpanOk ws) (hf : Fit ws vs) :
    Calls Try.prog 24 #[.slice a ws.length cap, .slice a' vs.length cap'] w fun e w' => e = .returned (.tuple #[.int .u64 (packVal ws vs), .int .i64 0]) ∧ w' = w := by
  have hl' : vs.length ≤ 9223372036854775807 := by omega
  have hne : (((ws.length : Int)) != (vs.length : Int)) = false := by simp [hlen]
  have HL : Hid (ws.length = vs.length) := hlen
  clear hlen
  go_enter Try.func24, Try.ntmps24
  go_wp2_with (go_at_call 27; refine (span_yes _ _ _ _ hl hc hs).mono ?_; rintro e w' ⟨rfl, rfl⟩)
  go_loop [8, 9, 27] (fun x t i => ∃ k : Nat, k ≤ ws.length ∧ i = .int .i64 k ∧ x = .int .u64 (packVal (ws.take k) (vs.take k)) ∧ t = .int .u64 (ws.take k).sum) (fun _ _ i => ws.length - (intOf i).toNat)
  case atStart => exact ⟨0, by omega, rfl, rfl, rfl⟩
  case round =>
    obtain ⟨k, hk, rfl, rfl, rfl⟩ := hrel
    by_cases hlt : k < ws.length
    · have hlt' : k < vs.length := by have := HL.out; omega
      obtain ⟨b, off, rfl, hcell⟩ := hc k hlt
      obtain ⟨b', off', rfl, hcell'⟩ := hc' k hlt'
      obtain ⟨h0, h1, h2⟩ := hs k hlt
      have h3 := sum_nonneg (fun k h => (hs k h).1) k hk
      obtain ⟨h4, h5⟩ := hf k hlt hlt'
      obtain ⟨h6, h7⟩ := hi k hlt'
      have HV : Hid (_ = _) := pack_step_val ws vs k hlt hlt' (fun k h => (hs k h).1) HL.out (fun j h h' _ => hf j h h') h2
      have HS : Hid ((ws.take (k + 1)).sum = (ws.take k).sum + ws[k]) := sum_take_succ ws k hlt
      go_wp2_with (go_at_call 28; refine (ones_any _ _ (by omega) (by omega)).mono ?_; rintro e w' ⟨rfl, rfl⟩)
      go_round
      case rel => exact ⟨k + 1, by omega, by go_num, u64_congr HV.out, u64_congr HS.out.symm⟩
      case measure => simp [intOf]; omega
    · obtain rfl : k = ws.length := by omega
      go_wp2
      go_ret2
      exact ⟨by simp [HL.out], rfl⟩

set_option maxHeartbeats 400000 in
theorem pack_no_len (a a' : Option Addr) (cap cap' : Nat) (m n : Nat) (w : World) (hlen : m ≠ n) :
    Calls Try.prog 24 #[.slice a m cap, .slice a' n cap'] w fun e w' => e = .returned (.tuple #[.int .u64 0, .int .i64 1]) ∧ w' = w := by
  have hne : ((m : Int) != (n : Int)) = true := by simp; omega
  clear hlen
  go_enter Try.func24, Try.ntmps24
  go_wp2_with fail
  go_ret2
  exact ⟨rfl, rfl⟩

set_option maxHeartbeats 400000 in
theorem pack_no_span (a a' : Option Addr) (cap cap' : Nat) (ws vs : List Int) (w : World) (hl : ws.length ≤ 9223372036854775807) (hlen : ws.length = vs.length)
    (hc : IntsAt w a ws) (hs : ¬ SpanOk ws) :
    Calls Try.prog 24 #[.slice a ws.length cap, .slice a' vs.length cap'] w fun e w' => e = .returned (.tuple #[.int .u64 0, .int .i64 1]) ∧ w' = w := by
  have hne : (((ws.length : Int)) != (vs.length : Int)) = false := by simp [hlen]
  clear hlen
  have HX : Hid (∀ w, IntsAt w a ws → Calls Try.prog 27 #[.slice a ws.length cap] w fun e w' => e = .returned (.tuple #[.int .i64 0, .bool false]) ∧ w' = w) := fun w hc => span_no _ _ _ _ hl hc hs
  clear hs
  go_enter Try.func24, Try.ntmps24
  go_wp2_with (go_at_call 27; refine (HX.out _ hc).mono ?_; rintro e w' ⟨rfl, rfl⟩)
  go_ret2
  exact ⟨rfl, rfl⟩

set_option maxHeartbeats 400000 in
theorem pack_no_fit (a a' : Option Addr) (cap cap' : Nat) (ws vs : List Int) (w : World) (hl : ws.length ≤ 9223372036854775807) (hlen : ws.length = vs.length)
    (hc : IntsAt w a ws) (hc' : IntsAt w a' vs) (hi : I64s vs) (hs : SpanOk ws) (hf : ¬ Fit ws vs) :
    Calls Try.prog 24 #[.slice a ws.length cap, .slice a' vs.length cap'] w fun e w' => e = .returned (.tuple #[.int .u64 0, .int .i64 1]) ∧ w' = w := by
  have hl' : vs.length ≤ 9223372036854775807 := by omega
  have hne : (((ws.length : Int)) != (vs.length : Int)) = false := by simp [hlen]
  have HL : Hid (ws.length = vs.length) := hlen
  clear hlen
  have HF : Hid (¬ Fit ws vs) := hf
  clear hf
  go_enter Try.func24, Try.ntmps24
  go_wp2_with (go_at_call 27; refine (span_yes _ _ _ _ hl hc hs).mono ?_; rintro e w' ⟨rfl, rfl⟩)
  go_loop [8, 9, 27] (fun x t i => ∃ k : Nat, k ≤ ws.length ∧ i = .int .i64 k ∧ (∃ X : Nat, x = .int .u64 X) ∧ t = .int .u64 (ws.take k).sum ∧
     Hid (∀ j (h : j < ws.length) (h' : j < vs.length), j < k → 0 ≤ vs[j] ∧ vs[j] ≤ 2 ^ ws[j].toNat - 1)) (fun _ _ i => ws.length - (intOf i).toNat)
  case atStart => exact ⟨0, by omega, rfl, ⟨0, rfl⟩, rfl, fun _ _ _ h => by omega⟩
  case round =>
    obtain ⟨k, hk, rfl, ⟨X, rfl⟩, rfl, HP⟩ := hrel
    by_cases hlt : k < ws.length
    · have hlt' : k < vs.length := by have := HL.out; omega
      obtain ⟨b, off, rfl, hcell⟩ := hc k hlt
      obtain ⟨b', off', rfl, hcell'⟩ := hc' k hlt'
      obtain ⟨h0, h1, h2⟩ := hs k hlt
      have h3 := sum_nonneg (fun k h => (hs k h).1) k hk
      obtain ⟨h6, h7⟩ := hi k hlt'
      have HS : Hid ((ws.take (k + 1)).sum = (ws.take k).sum + ws[k]) := sum_take_succ ws k hlt
      by_cases h4 : 0 ≤ vs[k]
      · by_cases h5 : vs[k] ≤ 2 ^ ws[k].toNat - 1
        · go_wp2_with (go_at_call 28; refine (ones_any _ _ (by omega) (by omega)).mono ?_; rintro e w' ⟨rfl, rfl⟩)
          go_round
          case rel =>
            refine ⟨k + 1, by omega, by go_num, ?_, u64_congr HS.out.symm, fun j h h' hj => ?_⟩
            · exact ⟨(BitVec.ofInt 64 X ||| BitVec.ofInt 64 (IntKind.u64.wrap (vs[k] * 2 ^ (List.take k ws).sum.toNat))).toNat, u64_congr (by
                show IntKind.u64.wrap ((BitVec.ofInt 64 X ||| BitVec.ofInt 64 (IntKind.u64.wrap (vs[k] * 2 ^ (List.take k ws).sum.toNat))).toNat : Int) = _
                rw [IntKind.wrap_u64]
                have := (BitVec.ofInt 64 X ||| BitVec.ofInt 64 (IntKind.u64.wrap (vs[k] * 2 ^ (List.take k ws).sum.toNat))).isLt
                omega)⟩
            · by_cases e : j = k
              · subst e; exact ⟨h4, h5⟩
              · exact HP.out j h h' (by omega)
          case measure => simp [intOf]; omega
        · go_wp2_with (go_at_call 28; refine (ones_any _ _ (by omega) (by omega)).mono ?_; rintro e w' ⟨rfl, rfl⟩)
          go_ret2
          exact ⟨rfl, rfl⟩
      · go_wp2_with fail
        go_ret2
        exact ⟨rfl, rfl⟩
    · obtain rfl : k = ws.length := by omega
      exact absurd (fun j h h' => HP.out j h h' h) HF.out


end Go.Proofs.Ytgnobaenlcbfjaa
