/-
  How much of a room is one's: the contracts of portion and of the document's part.
-/
import Derived.Test.YtimgpikgkbjliaaD2
namespace Go.Proofs.Ytimgpikgkbjliaa
open Go.RowKit

/-- What a claim comes to, where all claims come to s, and p is there. -/
def prt (a p s : Int) : Int := if p < s then a * p / s else a
theorem prt_lo {a p s : Int} (ha : 0 ≤ a) (hp : 0 ≤ p) : 0 ≤ prt a p s ∧ prt a p s ≤ a := by
  unfold prt
  split
  · have hs : 0 < s := by omega
    refine ⟨Int.ediv_nonneg (Int.mul_nonneg ha hp) (by omega), ?_⟩
    refine Int.ediv_le_of_le_mul hs ?_
    exact Int.mul_le_mul_of_nonneg_left (by omega) ha
  · omega

set_option maxHeartbeats 4000000 in
theorem pportion (a p s : Int) (w : World) (ha : 0 ≤ a ∧ a ≤ 1099511627776) (hp : 0 ≤ p ∧ p ≤ 1099511627776) (hs : 0 ≤ s ∧ s ≤ 1125899906842624) :
    Calls Try.prog 26 #[.int .i64 a, .int .i64 p, .int .i64 s] w fun e w' => e = .returned (.int .i64 (prt a p s)) ∧ Below w.heap.size w w' := by
  by_cases h : p < s
  · have hd : decide (s ≤ p) = false := by simp; omega
    obtain ⟨P, hP⟩ : ∃ P, P = prt a p s := ⟨_, rfl⟩
    have hPb := prt_lo (s := s) ha.1 hp.1
    rw [← hP] at hPb ⊢
    obtain ⟨a, rfl⟩ := Int.eq_ofNat_of_zero_le ha.1
    obtain ⟨p, rfl⟩ := Int.eq_ofNat_of_zero_le hp.1
    obtain ⟨s, rfl⟩ := Int.eq_ofNat_of_zero_le hs.1
    have hmul : a * p ≤ 1099511627776 * 1099511627776 := Nat.mul_le_mul (by omega) (by omega)
    obtain ⟨H, hH⟩ : ∃ H, H = a * p / 18446744073709551616 := ⟨_, rfl⟩
    obtain ⟨L, hL⟩ : ∃ L, L = a * p % 18446744073709551616 := ⟨_, rfl⟩
    have hHL : H * 18446744073709551616 + L = a * p := by omega
    have hHs : H < s := by
      have h1 : a * p < 18446744073709551616 * s := by
        by_cases ha0 : a = 0
        · subst ha0; omega
        · have : a * p ≤ 1099511627776 * p := Nat.mul_le_mul_right _ (by omega)
          omega
      omega
    obtain ⟨Q, hQ⟩ : ∃ Q : Nat, Q = a * p / s := ⟨_, rfl⟩
    obtain ⟨R, hR⟩ : ∃ R : Nat, R = a * p % s := ⟨_, rfl⟩
    have hPQ : P = (Q : Int) := by
      rw [hP, hQ]
      unfold prt
      rw [if_pos h]
      simp
    have HM : Hid (∀ w, Calls Try.prog 35 #[.int .u64 a, .int .u64 p] w fun e w' => e = .returned (.tuple #[.int .u64 H, .int .u64 L]) ∧ w' = w) := by
      intro w
      have := Try.bits_Mul64 a p (by omega) (by omega) w
      rw [← hH, ← hL] at this
      exact this
    have HD : Hid (∀ w, Calls Try.prog 36 #[.int .u64 H, .int .u64 L, .int .u64 s] w fun e w' => e = .returned (.tuple #[.int .u64 Q, .int .u64 R]) ∧ ∃ n, w' = w.drewN n) := by
      intro w
      have := pdiv H L s hHs (by omega) (by omega) w
      rw [hHL, ← hQ, ← hR] at this
      exact this
    subst hPQ
    have c1 : IntKind.u64.wrap (a : Int) = a := by rw [IntKind.wrap_u64]; omega
    have c2 : IntKind.u64.wrap (p : Int) = p := by rw [IntKind.wrap_u64]; omega
    have c3 : IntKind.u64.wrap (s : Int) = s := by rw [IntKind.wrap_u64]; omega
    have c4 : IntKind.i64.wrap (Q : Int) = Q := by rw [IntKind.wrap_i64]; omega
    clear hP hmul hH hL hHL hHs hQ hR
    go_enter Try.func26, Try.ntmps26
    go_wp2_with fail
    refine (HM.out _).mono ?_
    rintro e w' ⟨rfl, rfl⟩
    go_wp2_with fail
    refine (HD.out _).mono ?_
    rintro e w2 ⟨rfl, n, rfl⟩
    go_wp2_with fail
    go_ret
    exact ⟨rfl, below_drawn (Below.refl _ _) n⟩
  · have hd : decide (s ≤ p) = true := by simp; omega
    have e : prt a p s = a := if_neg h
    rw [e]
    clear e
    go_enter Try.func26, Try.ntmps26
    go_wp2
    go_ret
    exact ⟨rfl, Below.refl _ _⟩

set_option maxHeartbeats 4000000 in
theorem rpart (a p s : Int) (w : World) (ha : 0 ≤ a ∧ a ≤ 1099511627776) (hp : 0 ≤ p ∧ p ≤ 1099511627776) (hps : p < s) (hs : s ≤ 1125899906842624) :
    Calls Try.prog 28 #[.int .i64 a, .int .i64 p, .int .i64 s] w fun e w' => e = .returned (.int .i64 (prt a p s)) ∧ w' = w := by
  obtain ⟨P, hP⟩ : ∃ P, P = prt a p s := ⟨_, rfl⟩
  rw [← hP]
  have HP : Hid (P = a * p / s) := by show _ = _; rw [hP]; exact if_pos hps
  have hs0 : ¬ s = 0 := by omega
  clear hP
  go_enter Try.func28, Try.ntmps28
  go_wp2
  go_loop [7, 8, 9] (fun s7 s8 s9 => ∃ (q r : Int) (b : Nat), b ≤ 47 ∧ s7 = .int .i64 q ∧ s8 = .int .i64 r ∧ s9 = .int .i64 ((b : Int) - 1) ∧ 0 ≤ q ∧ q ≤ a ∧ (0 ≤ r ∧ r < s) ∧ Hid (q * s + r = a * (p / 2 ^ b))) (fun _ _ s9 => (intOf s9 + 1).toNat)
  case atStart =>
    refine ⟨0, 0, 47, by omega, rfl, rfl, rfl, by omega, by omega, by omega, ?_⟩
    show _ = _
    have : p / 2 ^ 47 = 0 := Int.ediv_eq_zero_of_lt hp.1 (by omega)
    rw [this]
    simp
  case round =>
    obtain ⟨q, r, b, hb, rfl, rfl, rfl, hq0, hqa, ⟨hr0, hr1⟩, HI⟩ := hrel
    obtain ⟨ha0, ha1⟩ := ha
    obtain ⟨hp0, hp1⟩ := hp
    have hs1 : 0 < s := by omega
    cases b with
    | zero =>
      have HE : Hid (P = q) := by
        show _ = _
        rw [HP.out]
        exact (part_end hs1 HI.out ⟨hr0, hr1⟩).symm
      have e0 : (((0 : Nat) : Int) - 1) = -1 := rfl
      rw [e0]
      go_wp2
      go_ret
      exact ⟨by rw [HE.out]; rfl, rfl⟩
    | succ k =>
      have e0 : (((k + 1 : Nat) : Int) - 1) = (k : Int) := by omega
      rw [e0]
      obtain ⟨B, hB⟩ : ∃ B, p / 2 ^ k = B := ⟨_, rfl⟩
      have hst := part_step (a := a) (p := p) (s := s) (q := q) (r := r) (b := k) hs1 HI.out
      rw [hB] at hst
      have hB0 : 0 ≤ B := by rw [← hB]; exact Int.ediv_nonneg hp0 (Int.le_of_lt (Int.pow_pos (by decide)))
      have hB1 : B ≤ 1099511627776 := by rw [← hB]; have := Int.ediv_le_self (2 ^ k) hp0; omega
      clear e0 HI HP
      have hend : ∀ x : Int, (2 * q + x / s) * s + x % s = a * B ∧ 0 ≤ x % s ∧ x % s < s → 0 ≤ x →
          0 ≤ 2 * q + x / s ∧ 2 * q + x / s ≤ a ∧ (0 ≤ x % s ∧ x % s < s) ∧ Hid ((2 * q + x / s) * s + x % s = a * (p / 2 ^ k)) := by
        rintro x ⟨g1, g2⟩ hx
        have g3 := part_le hs1 ⟨hp0, hps⟩ (by rw [hB]; exact g1) g2 ha0
        have g4 := Int.ediv_nonneg hx (show 0 ≤ s by omega)
        have g5 : (2 * q + x / s) * s + x % s = a * (p / 2 ^ k) := by rw [hB]; exact g1
        exact ⟨by omega, g3, g2, g5⟩
      have HEnd : Hid (∀ x : Int, (2 * q + x / s) * s + x % s = a * B ∧ 0 ≤ x % s ∧ x % s < s → 0 ≤ x →
          0 ≤ 2 * q + x / s ∧ 2 * q + x / s ≤ a ∧ (0 ≤ x % s ∧ x % s < s) ∧ Hid ((2 * q + x / s) * s + x % s = a * (p / 2 ^ k))) := hend
      clear hend
      by_cases hb1 : B % 2 = 1
      · rw [if_pos hb1] at hst
        obtain ⟨f2, f3, f4, f5⟩ := HEnd.out _ hst (by omega)
        have d1 : (B.tmod 2 == 1) = true := by rw [Int.tmod_eq_emod_of_nonneg hB0]; simpa using hb1
        clear HEnd hst
        go_wp2
        exact ⟨⟨_, _, k, by omega, rfl, rfl, rfl, f2, f3, f4, f5⟩, by simp only [intOf]; omega⟩
      · rw [if_neg hb1, Int.add_zero] at hst
        obtain ⟨f2, f3, f4, f5⟩ := HEnd.out _ hst (by omega)
        have d1 : (B.tmod 2 == 1) = false := by rw [Int.tmod_eq_emod_of_nonneg hB0]; simpa using hb1
        clear HEnd hst
        go_wp2
        exact ⟨⟨_, _, k, by omega, rfl, rfl, rfl, f2, f3, f4, f5⟩, by simp only [intOf]; omega⟩
end Go.Proofs.Ytimgpikgkbjliaa
