/-
  Contracts of the document's own Pack and Unpack.
-/
import Derived.Test.YtlpbpibjofepjaaRef
import Derived.Test.YtlpbpibjofepjaaBack
namespace Go.Proofs.Ytlpbpibjofepjaa
open Go.RowKit
theorem refPack_step (ws vs : List Int) (k : Nat) (h : k < ws.length) (h' : k < vs.length) (hlen : ws.length = vs.length) (hs : SpanOk ws)
    (hf : ∀ j (h : j < ws.length) (h' : j < vs.length), j < k + 1 → 0 ≤ vs[j] ∧ vs[j] ≤ 2 ^ ws[j].toNat - 1) :
    IntKind.u64.wrap ((packVal (ws.take k) (vs.take k) : Int) + IntKind.u64.wrap (vs[k] * (pow64 (ws.take k).sum.toNat : Int))) = (packVal (ws.take (k + 1)) (vs.take (k + 1)) : Int) := by
  have hn : ∀ k (h : k < ws.length), 0 ≤ ws[k] := fun k h => (hs k h).1
  have hp1 := packVal_lt ws vs hlen hn (k + 1) (by omega) hf
  obtain ⟨g0, g1, g2⟩ := hs k h
  have g3 := sum_nonneg hn k (by omega)
  have h64 : 2 ^ (ws.take (k + 1)).sum.toNat ≤ 2 ^ 64 := pow_le (by rw [sum_take_succ ws k h]; omega)
  have e := packVal_take ws vs k h h' hn
  obtain ⟨h1, h2⟩ := hf k h h' (by omega)
  have e1 : IntKind.u64.wrap (vs[k] * (pow64 (ws.take k).sum.toNat : Int)) = ((vs[k].toNat * 2 ^ (ws.take k).sum.toNat : Nat) : Int) := by
    have ev : vs[k] = (vs[k].toNat : Int) := by omega
    rw [IntKind.wrap_u64]
    by_cases h63 : (ws.take k).sum.toNat ≤ 63
    · rw [pow64_small h63, ev, ← Int.natCast_mul, Int.toNat_natCast]
      rw [e] at hp1
      generalize vs[k].toNat * 2 ^ (ws.take k).sum.toNat = A at *
      omega
    · have h0 : ws[k].toNat = 0 := by omega
      rw [h0] at h2
      have : vs[k] = 0 := by simp at h2; omega
      rw [this]; simp
  rw [e1, e, IntKind.wrap_u64]
  rw [e] at hp1
  generalize vs[k].toNat * 2 ^ (ws.take k).sum.toNat = A at *
  omega

set_option maxHeartbeats 1000000 in
theorem refPack_yes (a a' : Option Addr) (cap cap' : Nat) (ws vs : List Int) (w : World) (hl : ws.length ≤ 9223372036854775806) (hlen : ws.length = vs.length)
    (hc : IntsAt w a ws) (hc' : IntsAt w a' vs) (hi : I64s vs) (hs : SpanOk ws) (hf : Fit ws vs) :
    Calls Try.prog 24 #[.slice a ws.length cap, .slice a' vs.length cap'] w fun e w' => e = .returned (.tuple #[.int .u64 (packVal ws vs), .int .i64 0]) ∧ ∃ n, w' = w.drewN n := by
  have hl' : vs.length ≤ 9223372036854775806 := by omega
  have hne : (((vs.length : Int)) != (ws.length : Int)) = false := by simp [hlen]
  have HL : Hid (ws.length = vs.length) := hlen
  clear hlen
  have HS : Hid (SpanOk ws) := hs
  have HF : Hid (Fit ws vs) := hf
  have HWD : Hid (∀ w, IntsAt w a ws → Calls Try.prog 32 #[.slice a ws.length cap] w fun e w' => e = .returned (.bool true) ∧ w' = w) := fun w h => widths_yes a cap ws w hl h hs
  clear hs hf
  go_enter Try.func24, Try.ntmps24
  go_wp2_with (go_at_call 32; refine (HWD.out _ hc).mono ?_; rintro e w' ⟨rfl, rfl⟩)
  go_loopw [6, 7, 8] (fun x t i wr => ∃ k : Nat, k ≤ ws.length ∧ i = .int .i64 k ∧ (∃ X : Nat, x = .int .u64 X ∧ Hid (X = packVal (ws.take k) (vs.take k))) ∧ t = .int .i64 (ws.take k).sum ∧ ∃ n, wr = w'.drewN n) (fun _ _ i _ => ws.length - (intOf i).toNat)
  case atStart => exact ⟨0, by omega, rfl, ⟨0, rfl, rfl⟩, rfl, 0, rfl⟩
  case round =>
    obtain ⟨k, hk, rfl, ⟨X, rfl, HX⟩, rfl, n, rfl⟩ := hrel
    by_cases hlt : k < ws.length
    · have hlt' : k < vs.length := by have := HL.out; omega
      obtain ⟨b, off, rfl, hcell⟩ := hc k hlt
      obtain ⟨b', off', rfl, hcell'⟩ := hc' k hlt'
      obtain ⟨h0, h1, h2⟩ := HS.out k hlt
      have h3 := sum_nonneg (fun k h => (HS.out k h).1) k hk
      obtain ⟨h4, h5⟩ := HF.out k hlt hlt'
      obtain ⟨h6, h7⟩ := hi k hlt'
      have eS := refPack_step ws vs k hlt hlt' HL.out HS.out (fun j h h' _ => HF.out j h h')
      obtain ⟨Y, hY⟩ : ∃ Y, Y = packVal (ws.take (k + 1)) (vs.take (k + 1)) := ⟨_, rfl⟩
      obtain ⟨Z, hZ⟩ : ∃ Z, Z = pow64 (ws.take k).sum.toNat := ⟨_, rfl⟩
      rw [← hY, ← HX.out, ← hZ] at eS
      have HY : Hid (Y = packVal (ws.take (k + 1)) (vs.take (k + 1))) := hY
      have HP2 : Hid (∀ w, Calls Try.prog 33 #[.int .i64 (ws.take k).sum] w fun e w' => e = .returned (.int .u64 Z) ∧ w' = w) := fun w => by
        obtain ⟨m, hm⟩ := Int.eq_ofNat_of_zero_le h3
        rw [hZ, hm, Int.toNat_natCast]
        exact power_any m w (by omega)
      obtain ⟨P, hP⟩ : ∃ P, P = 2 ^ ws[k].toNat := ⟨_, rfl⟩
      have hlP : vs[k] < (P : Int) := by rw [hP, cast_pow]; omega
      have HP1 : Hid (∀ w, Calls Try.prog 33 #[.int .i64 ws[k]] w fun e w' => e = .returned (.int .u64 P) ∧ w' = w) := fun w => by
        rw [hP]; exact power_int ws[k] w h0 (by omega)
      have HT : Hid ((ws.take (k + 1)).sum = (ws.take k).sum + ws[k]) := sum_take_succ ws k hlt
      have hg : decide (vs[k] < 0) = false := by simp; omega
      clear hY hZ hP h5
      go_wp2
      go_quiet ((go_at_call 33; exact (HP1.out _).mono fun e w' h => ⟨h.1, _, h.2⟩))
      go_wp2
      go_quiet ((go_at_call 33; exact (HP2.out _).mono fun e w' h => ⟨h.1, _, h.2⟩))
      go_wp2
      go_roundw
      case rel => exact ⟨k + 1, by omega, by go_num, ⟨Y, rfl, HY.out⟩, i64_congr HT.out.symm, _, rfl⟩
      case measure => simp [intOf]; omega
    · obtain rfl : k = ws.length := by omega
      go_wp2
      go_ret2
      refine ⟨?_, n, rfl⟩
      have := HX.out
      rw [List.take_length, HL.out, List.take_length] at this
      rw [← this]; rfl

set_option maxHeartbeats 1000000 in
theorem refPack_no_span (a a' : Option Addr) (cap cap' n : Nat) (ws : List Int) (w : World) (hl : ws.length ≤ 9223372036854775806) (hc : IntsAt w a ws) (hs : ¬ SpanOk ws) :
    Calls Try.prog 24 #[.slice a ws.length cap, .slice a' n cap'] w fun e w' => e = .returned (.tuple #[.int .u64 0, .int .i64 1]) ∧ ∃ n, w' = w.drewN n := by
  have HWD : Hid (∀ w, IntsAt w a ws → Calls Try.prog 32 #[.slice a ws.length cap] w fun e w' => e = .returned (.bool false) ∧ w' = w) := fun w h => widths_no a cap ws w hl h hs
  clear hs
  go_enter Try.func24, Try.ntmps24
  go_wp2_with (go_at_call 32; refine (HWD.out _ hc).mono ?_; rintro e w' ⟨rfl, rfl⟩)
  go_ret2
  exact ⟨rfl, 0, rfl⟩

set_option maxHeartbeats 1000000 in
theorem refPack_no_len (a a' : Option Addr) (cap cap' n : Nat) (ws : List Int) (w : World) (hl : ws.length ≤ 9223372036854775806) (hc : IntsAt w a ws) (hs : SpanOk ws) (hlen : n ≠ ws.length) :
    Calls Try.prog 24 #[.slice a ws.length cap, .slice a' n cap'] w fun e w' => e = .returned (.tuple #[.int .u64 0, .int .i64 1]) ∧ ∃ n, w' = w.drewN n := by
  have hne : ((n : Int) != (ws.length : Int)) = true := by simp; omega
  clear hlen
  have HWD : Hid (∀ w, IntsAt w a ws → Calls Try.prog 32 #[.slice a ws.length cap] w fun e w' => e = .returned (.bool true) ∧ w' = w) := fun w h => widths_yes a cap ws w hl h hs
  clear hs
  go_enter Try.func24, Try.ntmps24
  go_wp2_with (go_at_call 32; refine (HWD.out _ hc).mono ?_; rintro e w' ⟨rfl, rfl⟩)
  go_ret2
  exact ⟨rfl, 0, rfl⟩

set_option maxHeartbeats 1000000 in
theorem refPack_no_fit (a a' : Option Addr) (cap cap' : Nat) (ws vs : List Int) (w : World) (hl : ws.length ≤ 9223372036854775806) (hlen : ws.length = vs.length)
    (hc : IntsAt w a ws) (hc' : IntsAt w a' vs) (hi : I64s vs) (hs : SpanOk ws) (hf : ¬ Fit ws vs) :
    Calls Try.prog 24 #[.slice a ws.length cap, .slice a' vs.length cap'] w fun e w' => e = .returned (.tuple #[.int .u64 0, .int .i64 1]) ∧ ∃ n, w' = w.drewN n := by
  have hl' : vs.length ≤ 9223372036854775806 := by omega
  have hne : (((vs.length : Int)) != (ws.length : Int)) = false := by simp [hlen]
  have HL : Hid (ws.length = vs.length) := hlen
  clear hlen
  have HS : Hid (SpanOk ws) := hs
  have HF : Hid (¬ Fit ws vs) := hf
  have HWD : Hid (∀ w, IntsAt w a ws → Calls Try.prog 32 #[.slice a ws.length cap] w fun e w' => e = .returned (.bool true) ∧ w' = w) := fun w h => widths_yes a cap ws w hl h hs
  clear hs hf
  go_enter Try.func24, Try.ntmps24
  go_wp2_with (go_at_call 32; refine (HWD.out _ hc).mono ?_; rintro e w' ⟨rfl, rfl⟩)
  go_loopw [6, 7, 8] (fun x t i wr => ∃ k : Nat, k ≤ ws.length ∧ i = .int .i64 k ∧ (∃ X : Int, x = .int .u64 X) ∧ t = .int .i64 (ws.take k).sum ∧ (∃ n, wr = w'.drewN n) ∧
      Hid (∀ j (h : j < ws.length) (h' : j < vs.length), j < k → 0 ≤ vs[j] ∧ vs[j] ≤ 2 ^ ws[j].toNat - 1)) (fun _ _ i _ => ws.length - (intOf i).toNat)
  case atStart => exact ⟨0, by omega, rfl, ⟨0, rfl⟩, rfl, ⟨0, rfl⟩, fun _ _ _ h => by omega⟩
  case round =>
    obtain ⟨k, hk, rfl, ⟨X, rfl⟩, rfl, ⟨n, rfl⟩, HP⟩ := hrel
    by_cases hlt : k < ws.length
    · have hlt' : k < vs.length := by have := HL.out; omega
      obtain ⟨b, off, rfl, hcell⟩ := hc k hlt
      obtain ⟨b', off', rfl, hcell'⟩ := hc' k hlt'
      obtain ⟨h0, h1, h2⟩ := HS.out k hlt
      have h3 := sum_nonneg (fun k h => (HS.out k h).1) k hk
      obtain ⟨h6, h7⟩ := hi k hlt'
      obtain ⟨Z, hZ⟩ : ∃ Z, Z = pow64 (ws.take k).sum.toNat := ⟨_, rfl⟩
      have HP2 : Hid (∀ w, Calls Try.prog 33 #[.int .i64 (ws.take k).sum] w fun e w' => e = .returned (.int .u64 Z) ∧ w' = w) := fun w => by
        obtain ⟨m, hm⟩ := Int.eq_ofNat_of_zero_le h3
        rw [hZ, hm, Int.toNat_natCast]
        exact power_any m w (by omega)
      obtain ⟨P, hP⟩ : ∃ P, P = 2 ^ ws[k].toNat := ⟨_, rfl⟩
      have HPe : Hid (P = 2 ^ ws[k].toNat) := hP
      have HP1 : Hid (∀ w, Calls Try.prog 33 #[.int .i64 ws[k]] w fun e w' => e = .returned (.int .u64 P) ∧ w' = w) := fun w => by
        rw [hP]; exact power_int ws[k] w h0 (by omega)
      have HT : Hid ((ws.take (k + 1)).sum = (ws.take k).sum + ws[k]) := sum_take_succ ws k hlt
      clear hZ hP
      by_cases h4 : 0 ≤ vs[k]
      · have hg : decide (vs[k] < 0) = false := by simp; omega
        by_cases h5 : vs[k] < (P : Int)
        · go_wp2
          go_quiet ((go_at_call 33; exact (HP1.out _).mono fun e w' h => ⟨h.1, _, h.2⟩))
          go_wp2
          go_quiet ((go_at_call 33; exact (HP2.out _).mono fun e w' h => ⟨h.1, _, h.2⟩))
          go_wp2
          go_roundw
          case rel =>
            refine ⟨k + 1, by omega, by go_num, ⟨_, rfl⟩, i64_congr HT.out.symm, ⟨_, rfl⟩, fun j h h' hj => ?_⟩
            by_cases e : j = k
            · subst e
              refine ⟨h4, ?_⟩
              rw [HPe.out, cast_pow] at h5
              omega
            · exact HP.out j h h' (by omega)
          case measure => simp [intOf]; omega
        · go_wp2
          go_quiet ((go_at_call 33; exact (HP1.out _).mono fun e w' h => ⟨h.1, _, h.2⟩))
          go_wp2
          go_ret2
          exact ⟨rfl, _, drewN_add _ _ _⟩
      · have hg : decide (vs[k] < 0) = true := by simp; omega
        go_wp2
        go_quiet (fail)
        go_wp2
        go_ret2
        exact ⟨rfl, _, drewN_add _ _ _⟩
    · obtain rfl : k = ws.length := by omega
      exact absurd (fun j h h' => HP.out j h h' h) HF.out

theorem refPack_no (a a' : Option Addr) (cap cap' : Nat) (ws vs : List Int) (w : World) (hl : ws.length ≤ 9223372036854775806)
    (hc : IntsAt w a ws) (hc' : IntsAt w a' vs) (hi : I64s vs) (h : ¬ (ws.length = vs.length ∧ SpanOk ws ∧ Fit ws vs)) :
    Calls Try.prog 24 #[.slice a ws.length cap, .slice a' vs.length cap'] w fun e w' => e = .returned (.tuple #[.int .u64 0, .int .i64 1]) ∧ ∃ n, w' = w.drewN n := by
  by_cases h2 : SpanOk ws
  · by_cases h1 : ws.length = vs.length
    · exact refPack_no_fit a a' cap cap' ws vs w hl h1 hc hc' hi h2 (fun h3 => h ⟨h1, h2, h3⟩)
    · exact refPack_no_len a a' cap cap' _ ws w hl hc h2 (fun e => h1 e.symm)
  · exact refPack_no_span a a' cap cap' _ ws w hl hc h2


end Go.Proofs.Ytlpbpibjofepjaa
