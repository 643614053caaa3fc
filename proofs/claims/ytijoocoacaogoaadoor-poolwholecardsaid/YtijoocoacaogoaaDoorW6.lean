/-
  Contract of bits.Map's Next.
-/
import Derived.Test.YtijoocoacaogoaaDoorW5
namespace Go.Proofs.YtijoocoacaogoaaDoor
open Go.RowKit

theorem likeOf_lt (x : Nat) (on : Bool) (h : x < 18446744073709551616) : likeOf x on < 18446744073709551616 := by
  unfold likeOf; split <;> omega
theorem likeOf_bit (x i : Nat) (on : Bool) (h : x < 18446744073709551616) (hi : i < 64) : (likeOf x on).testBit i = (x.testBit i == on) := by
  unfold likeOf
  cases on
  · have e2 : 18446744073709551615 - x = 2 ^ 64 - (x + 1) := by omega
    simp only [Bool.false_eq_true, if_false]
    rw [e2, Nat.testBit_two_pow_sub_succ h]
    simp [hi]
  · simp

theorem found_val (L s : Nat) (h : L < 18446744073709551616) : IntKind.u64.wrap (↑L / 2 ^ s * 2 ^ s) = ((L / 2 ^ s * 2 ^ s : Nat) : Int) := by
  have h1 : L / 2 ^ s * 2 ^ s ≤ L := Nat.div_mul_le_self L (2 ^ s)
  rw [← cast_pow, ← Int.natCast_ediv, ← Int.natCast_mul, IntKind.wrap_u64]
  generalize L / 2 ^ s * 2 ^ s = A at *
  omega
theorem found_bit (L s i : Nat) : (L / 2 ^ s * 2 ^ s).testBit i = (decide (s ≤ i) && L.testBit i) := by
  rw [Nat.testBit_mul_two_pow]
  by_cases h : s ≤ i
  · rw [Nat.testBit_div_two_pow, Nat.sub_add_cancel h]
  · simp [h]

theorem ctz_bits (x : Nat) (h0 : x ≠ 0) (h : x < 18446744073709551616) : Lib.ctz 64 x < 64 ∧ x.testBit (Lib.ctz 64 x) = true ∧ ∀ i, i < Lib.ctz 64 x → x.testBit i = false := by
  obtain ⟨m, hm, hk⟩ := Lib.ctzFrom_spec 64 x (by omega) h
  have e : Lib.ctz 64 x = Lib.ctzFrom 64 x := by simp [Lib.ctz, h0]
  rw [e]
  generalize Lib.ctzFrom 64 x = c at *
  subst hm
  refine ⟨hk, ?_, ?_⟩
  · rw [Nat.mul_comm, Nat.testBit_mul_two_pow]
    simp
  · intro i hi
    rw [Nat.mul_comm, Nat.testBit_mul_two_pow]
    simp; omega

/-- What one word of the search tells: nothing from f on that is so. -/
theorem miss {w : World} {bm bw : Nat} {bs : List Bool} {ws : List Nat} (hm : MapIs w bm bw bs ws) (q s : Nat) (on : Bool) (hq : q < ws.length)
    (hz : likeOf ws[q] on / 2 ^ s * 2 ^ s = 0) (j : Nat) (h1 : 64 * q + s ≤ j) (h2 : j < 64 * (q + 1)) : bs.getD j false ≠ on := by
  have hb := hm.bit j (by omega)
  have e1 : j / 64 = q := by omega
  have e2 : (likeOf ws[q] on / 2 ^ s * 2 ^ s).testBit (j % 64) = false := by rw [hz]; simp
  rw [found_bit, likeOf_bit _ _ _ (hm.lt q hq) (by omega)] at e2
  rw [e1] at hb
  have e3 : ws.getD q 0 = ws[q] := by simp [hq]
  rw [e3] at hb
  rw [hb, decide_eq_true (by omega)] at e2
  simpa using e2

theorem hit {w : World} {bm bw : Nat} {bs : List Bool} {ws : List Nat} (hm : MapIs w bm bw bs ws) (q s : Nat) (on : Bool) (hq : q < ws.length)
    (hz : likeOf ws[q] on / 2 ^ s * 2 ^ s ≠ 0) :
    bs.getD (64 * q + Lib.ctz 64 (likeOf ws[q] on / 2 ^ s * 2 ^ s)) false = on ∧ s ≤ Lib.ctz 64 (likeOf ws[q] on / 2 ^ s * 2 ^ s) ∧ Lib.ctz 64 (likeOf ws[q] on / 2 ^ s * 2 ^ s) < 64 ∧
    ∀ j, 64 * q + s ≤ j → j < 64 * q + Lib.ctz 64 (likeOf ws[q] on / 2 ^ s * 2 ^ s) → bs.getD j false ≠ on := by
  have hlt : likeOf ws[q] on / 2 ^ s * 2 ^ s < 18446744073709551616 := Nat.lt_of_le_of_lt (Nat.div_mul_le_self _ _) (likeOf_lt _ on (hm.lt q hq))
  obtain ⟨h1, h2, h3⟩ := ctz_bits _ hz hlt
  have e3 : ws.getD q 0 = ws[q] := by simp [hq]
  generalize hc : Lib.ctz 64 (likeOf ws[q] on / 2 ^ s * 2 ^ s) = c at *
  rw [found_bit, likeOf_bit _ _ _ (hm.lt q hq) h1] at h2
  simp only [Bool.and_eq_true, decide_eq_true_eq, beq_iff_eq] at h2
  refine ⟨?_, h2.1, h1, ?_⟩
  · have hb := hm.bit (64 * q + c) (by omega)
    rw [show (64 * q + c) / 64 = q from by omega, show (64 * q + c) % 64 = c from by omega, e3, h2.2] at hb
    exact hb.symm
  · intro j hj hj'
    have hb := hm.bit j (by omega)
    have e := h3 (j % 64) (by omega)
    rw [found_bit, likeOf_bit _ _ _ (hm.lt q hq) (by omega), decide_eq_true (by omega)] at e
    rw [show j / 64 = q from by omega, e3] at hb
    rw [hb] at e
    simpa using e

theorem next_out (bm bw : Nat) (bs : List Bool) (ws : List Nat) (f : Nat) (on : Bool) (w : World) (hm : MapIs w bm bw bs ws) (hf : ¬ f < bs.length) :
    Calls Tryd.prog 31 #[.pointer (some ⟨bm, 0, none⟩), .int .i64 f, .bool on] w fun e w' => e = .returned (.int .i64 (-1)) ∧ w' = w := by
  have HH : Hid (∀ w, MapIs w bm bw bs ws → Calls Tryd.prog 30 #[.pointer (some ⟨bm, 0, none⟩), .int .i64 f] w fun e w' => e = .returned (.bool false) ∧ w' = w) := fun w hm => by
    refine (has_any bm bw bs ws f w hm).mono ?_
    rintro e w' ⟨rfl, rfl⟩
    exact ⟨by rw [decide_eq_false (by omega)], rfl⟩
  clear hf
  go_enter Tryd.func31, Tryd.ntmps31
  go_wp2_with (go_at_call 30; refine (HH.out _ hm).mono ?_; rintro e w' ⟨rfl, rfl⟩)
  go_ret
  exact ⟨rfl, rfl⟩

set_option maxHeartbeats 1000000 in
theorem next_core (bm bw : Nat) (bs : List Bool) (ws : List Nat) (f q0 s0 : Nat) (on : Bool) (w : World) (hm : MapIs w bm bw bs ws) (hT : Tab w) (hf : f < bs.length)
    (hq0 : (f : Int) / 64 = (q0 : Int)) (hs0 : (f : Int) % 64 = (s0 : Int)) (hs : s0 < 64) :
    Calls Tryd.prog 31 #[.pointer (some ⟨bm, 0, none⟩), .int .i64 f, .bool on] w fun e w' => ∃ r, e = .returned (.int .i64 r) ∧ IsNext bs f on r ∧ w' = w := by
  have hle := hm.le
  have hlen := hm.len
  have hle' : ws.length ≤ 1024 := by omega
  have hfw : q0 < ws.length := by omega
  have HF : Hid (f = 64 * q0 + s0) := by show _ = _; omega
  have HL : Hid (ws.length = (bs.length + 63) / 64) := hlen
  clear hlen
  have HH : Hid (∀ w, MapIs w bm bw bs ws → Calls Tryd.prog 30 #[.pointer (some ⟨bm, 0, none⟩), .int .i64 f] w fun e w' => e = .returned (.bool true) ∧ w' = w) := fun w hm => by
    refine (has_any bm bw bs ws f w hm).mono ?_
    rintro e w' ⟨rfl, rfl⟩
    exact ⟨by rw [decide_eq_true (by omega)], rfl⟩
  have hc1 : w.cell? ⟨bm, 1, none⟩ = some (.slice (some ⟨bw, 0, none⟩) ws.length ws.length) := by rw [hm.m.cell]; rfl
  go_enter Tryd.func31, Tryd.ntmps31
  go_wp2_with (go_at_call 30; refine (HH.out _ hm).mono ?_; rintro e w' ⟨rfl, rfl⟩)
  clear hq0 hs0
  go_loop [8, 29] (fun sk i => ∃ k s : Nat, q0 + k ≤ ws.length ∧ i = .int .i64 k ∧ sk = .int .u64 s ∧ s < 64 ∧ f ≤ 64 * (q0 + k) + s ∧
      Hid (∀ j, f ≤ j → j < 64 * (q0 + k) + s → bs.getD j false ≠ on)) (fun _ i => ws.length - (intOf i).toNat)
  case atStart => exact ⟨0, s0, by omega, rfl, rfl, hs, by have := HF.out; omega, fun j h1 h2 => by have := HF.out; omega⟩
  case round =>
    obtain ⟨k, s, hk, rfl, rfl, hs', hfs, HN⟩ := hrel
    by_cases hlt : q0 + k < ws.length
    · have hb := hm.lt (q0 + k) hlt
      have hL := likeOf_lt _ on hb
      obtain ⟨L, hLe⟩ : ∃ L, L = likeOf ws[q0 + k] on := ⟨_, rfl⟩
      have HK : Hid (∀ w, MapIs w bm bw bs ws → Calls Tryd.prog 34 #[.pointer (some ⟨bm, 0, none⟩), .int .i64 ((q0 : Int) + (k : Int)), .bool on] w fun e w' => e = .returned (.int .u64 L) ∧ w' = w) := fun w hm => by
        have := like_any bm bw bs ws (q0 + k) on w hm hlt
        rw [hLe]; simpa using this
      rw [← hLe] at hL
      have HLe : Hid (L = likeOf ws[q0 + k] on) := hLe
      clear hLe
      obtain ⟨F, hF⟩ : ∃ F, F = L / 2 ^ s * 2 ^ s := ⟨_, rfl⟩
      have hFv := found_val L s hL
      rw [← hF] at hFv
      have hFlt : F < 18446744073709551616 := by rw [hF]; exact Nat.lt_of_le_of_lt (Nat.div_mul_le_self _ _) hL
      have HFe : Hid (F = L / 2 ^ s * 2 ^ s) := hF
      clear hF
      by_cases hz : F = 0
      · have HZ : Hid (F = 0) := hz
        have hne : (((F : Int)) != 0) = false := by simp [hz]
        clear hz
        go_wp2_with (go_at_call 34; refine (HK.out _ hm).mono ?_; rintro e w' ⟨rfl, rfl⟩)
        go_round
        case rel =>
          refine ⟨k + 1, 0, by omega, by go_num, by go_num, by omega, by omega, fun j h1 h2 => ?_⟩
          by_cases hj : j < 64 * (q0 + k) + s
          · exact HN.out j h1 hj
          · have hzz := HZ.out
            rw [HFe.out, HLe.out] at hzz
            exact miss hm (q0 + k) s on hlt hzz j (by omega) (by omega)
        case measure => simp [intOf]; omega
      · have HZ : Hid (¬ F = 0) := hz
        have hne : (((F : Int)) != 0) = true := by simp [hz]
        obtain ⟨c, hc⟩ : ∃ c, c = Lib.ctz 64 F := ⟨_, rfl⟩
        have HC : Hid (∀ w, Tab w → Calls Tryd.prog 36 #[.int .u64 (F : Int)] w fun e w' => e = .returned (.int .i64 c) ∧ w' = w) := fun w hT => by
          rw [hc]; exact tz_any F w hFlt hz hT
        have hzz := hz
        rw [HFe.out, HLe.out] at hzz
        have hh := hit hm (q0 + k) s on hlt hzz
        rw [← HLe.out, ← HFe.out, ← hc] at hh
        obtain ⟨g1, g2, g3, g4⟩ := hh
        have H1 : Hid (bs.getD (64 * (q0 + k) + c) false = on) := g1
        have H4 : Hid (∀ j, 64 * (q0 + k) + s ≤ j → j < 64 * (q0 + k) + c → bs.getD j false ≠ on) := g4
        clear hz hc g1 g4 hzz
        go_wp2_with (first
          | (go_at_call 34; refine (HK.out _ hm).mono ?_; rintro e w' ⟨rfl, rfl⟩)
          | (go_at_call 36; refine (HC.out _ hT).mono ?_; rintro e w' ⟨rfl, rfl⟩)
          | (go_at_call 35; refine (known_any bm bw bs ws _ _ hm).mono ?_; rintro e w' ⟨rfl, rfl⟩))
        · go_ret
          refine ⟨_, rfl, Or.inr ⟨64 * (q0 + k) + c, by omega, by omega, by omega, H1.out, fun i h1 h2 => ?_⟩, rfl⟩
          by_cases hi : i < 64 * (q0 + k) + s
          · exact HN.out i h1 hi
          · exact H4.out i (by omega) h2
        · go_ret
          refine ⟨_, rfl, Or.inl ⟨rfl, fun i h1 h2 => ?_⟩, rfl⟩
          by_cases hi : i < 64 * (q0 + k) + s
          · exact HN.out i h1 hi
          · exact H4.out i (by omega) (by omega)
    · go_wp2
      go_ret
      exact ⟨_, rfl, Or.inl ⟨rfl, fun i h1 h2 => HN.out i h1 (by have := HL.out; omega)⟩, rfl⟩

theorem next_nat (bm bw : Nat) (bs : List Bool) (ws : List Nat) (g : Int) (f : Nat) (on : Bool) (w : World) (hm : MapIs w bm bw bs ws) (hT : Tab w) (hg : g = f) :
    Calls Tryd.prog 31 #[.pointer (some ⟨bm, 0, none⟩), .int .i64 g, .bool on] w fun e w' => ∃ r, e = .returned (.int .i64 r) ∧ IsNext bs f on r ∧ w' = w := by
  subst hg
  by_cases hf : f < bs.length
  · exact next_core bm bw bs ws f (f / 64) (f % 64) on w hm hT hf (by omega) (by omega) (by omega)
  · refine (next_out bm bw bs ws f on w hm hf).mono ?_
    rintro e w' ⟨rfl, rfl⟩
    exact ⟨-1, rfl, Or.inl ⟨rfl, fun j h1 h2 => by omega⟩, rfl⟩

end Go.Proofs.YtijoocoacaogoaaDoor
