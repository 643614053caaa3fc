/-
  Division of two words by one: shifted till the divisor's first bit is on; the contract of math/bits.Div64.
-/
import Derived.Test.YtimgpikgkbjliaaD1
import Derived.Test.YtimgpikgkbjliaaP1
import Derived.Test.YtimgpikgkbjliaaShelf
import Derived.Deep.CutBlock
import Derived.Deep.DeepCutAuto
namespace Go.Proofs.Ytimgpikgkbjliaa
open Go.RowKit

theorem len_aux : ∀ (f x : Nat), x < 2 ^ f → 0 < x → ∃ k, Lib.bitLenAux f x = k + 1 ∧ k < f ∧ 2 ^ k ≤ x ∧ x < 2 ^ (k + 1) := by
  intro f
  induction f with
  | zero => intro x h0 h1; simp at h0; omega
  | succ f ih =>
    intro x h0 h1
    simp only [Lib.bitLenAux]
    rw [if_neg (by omega)]
    by_cases hx : x = 1
    · subst hx
      refine ⟨0, ?_, by omega, by simp, by simp⟩
      cases f <;> simp [Lib.bitLenAux]
    · obtain ⟨k, e, h2, h3, h4⟩ := ih (x / 2) (by rw [Nat.pow_succ] at h0; omega) (by omega)
      refine ⟨k + 1, by omega, by omega, ?_, ?_⟩
      · rw [Nat.pow_succ]; omega
      · rw [Nat.pow_succ]; omega
theorem len_of {y : Nat} (h : y < 18446744073709551616) (h0 : 0 < y) : ∃ s : Nat, s ≤ 63 ∧ Lib.bitLen y + s = 64 ∧ 9223372036854775808 ≤ y * 2 ^ s ∧ y * 2 ^ s < 18446744073709551616 := by
  obtain ⟨k, e, h1, h2, h3⟩ := len_aux 64 y h h0
  obtain ⟨s, hs⟩ : ∃ s, s = 63 - k := ⟨_, rfl⟩
  have hp : 2 ^ k * 2 ^ s = 9223372036854775808 := by rw [← Nat.pow_add, hs]; have : k + (63 - k) = 63 := by omega
                                                      rw [this]
  have hq : 2 ^ (k + 1) * 2 ^ s = 18446744073709551616 := by rw [Nat.pow_succ, Nat.mul_right_comm, hp]
  refine ⟨s, by omega, by unfold Lib.bitLen; omega, ?_, ?_⟩
  · rw [← hp]; exact Nat.mul_le_mul_right _ h2
  · rw [← hq]; exact Nat.mul_lt_mul_of_pos_right h3 (Nat.two_pow_pos _)
theorem or_add (a b s : Nat) (hb : b < 2 ^ s) : a * 2 ^ s ||| b = a * 2 ^ s + b := by
  rw [Nat.mul_comm]
  exact (Nat.two_pow_add_eq_or_of_lt hb a).symm

theorem norm (hi lo y : Nat) (hy : hi < y) (yM : y < 18446744073709551616) (hl : lo < 18446744073709551616) :
    ∃ (s : Nat) (Y U L : Int), s ≤ 63 ∧ (64 - (Lib.bitLen y : Int)) = s ∧ IntKind.u64.wrap ((y : Int) * 2 ^ s) = Y ∧ bits .or .u64 (IntKind.u64.wrap ((hi : Int) * 2 ^ s)) ((lo : Int) / 2 ^ (64 - s)) = U ∧ IntKind.u64.wrap ((lo : Int) * 2 ^ s) = L ∧
      (9223372036854775808 ≤ Y ∧ Y < 18446744073709551616) ∧ (0 ≤ U ∧ U < Y) ∧ (0 ≤ L ∧ L < 18446744073709551616) ∧
      (((hi * 18446744073709551616 + lo) / y : Nat) : Int) = (U * 18446744073709551616 + L) / Y ∧ (((hi * 18446744073709551616 + lo) % y : Nat) : Int) = (U * 18446744073709551616 + L) % Y / 2 ^ s := by
  obtain ⟨s, h1, h2, h3, h4⟩ := len_of yM (by omega)
  have hp : 2 ^ (64 - s) * 2 ^ s = 18446744073709551616 := by rw [← Nat.pow_add]; have : 64 - s + s = 64 := by omega
                                                              rw [this]
  have hA : hi * 2 ^ s + 2 ^ s ≤ y * 2 ^ s := by have := Nat.mul_le_mul_right (2 ^ s) (Nat.succ_le_of_lt hy); rwa [Nat.succ_mul] at this
  have hps := Nat.two_pow_pos s
  have hpt := Nat.two_pow_pos (64 - s)
  have hB : lo / 2 ^ (64 - s) < 2 ^ s := by rw [Nat.div_lt_iff_lt_mul hpt, Nat.mul_comm, hp]; exact hl
  have hdm : 2 ^ (64 - s) * (lo / 2 ^ (64 - s)) + lo % 2 ^ (64 - s) = lo := Nat.div_add_mod _ _
  have hmod : lo % 2 ^ (64 - s) * 2 ^ s < 18446744073709551616 := by
    have := Nat.mul_lt_mul_of_pos_right (Nat.mod_lt lo hpt) hps
    rwa [hp] at this
  have hlo : lo * 2 ^ s = lo / 2 ^ (64 - s) * 18446744073709551616 + lo % 2 ^ (64 - s) * 2 ^ s := by
    conv => lhs; rw [← hdm]
    rw [Nat.add_mul, Nat.mul_right_comm, hp, Nat.mul_comm 18446744073709551616]
  have hX : (hi * 18446744073709551616 + lo) * 2 ^ s = (hi * 2 ^ s + lo / 2 ^ (64 - s)) * 18446744073709551616 + lo % 2 ^ (64 - s) * 2 ^ s := by
    rw [Nat.add_mul, hlo, Nat.add_mul, Nat.mul_right_comm]; omega
  obtain ⟨B, hBv⟩ : ∃ B, B = lo / 2 ^ (64 - s) := ⟨_, rfl⟩
  obtain ⟨M, hMv⟩ : ∃ M, M = lo % 2 ^ (64 - s) * 2 ^ s := ⟨_, rfl⟩
  have c1 : ((y : Int) * 2 ^ s) = ((y * 2 ^ s : Nat) : Int) := by simp
  have c2 : ((hi : Int) * 2 ^ s) = ((hi * 2 ^ s : Nat) : Int) := by simp
  have c3 : ((lo : Int) * 2 ^ s) = ((lo * 2 ^ s : Nat) : Int) := by simp
  have c4 : ((lo : Int) / 2 ^ (64 - s)) = ((lo / 2 ^ (64 - s) : Nat) : Int) := by simp
  rw [← hBv] at c4
  rw [← hBv, ← hMv] at hX hlo
  rw [← hBv] at hB
  rw [← hMv] at hmod
  clear hdm hp
  refine ⟨s, ((y * 2 ^ s : Nat) : Int), ((hi * 2 ^ s + B : Nat) : Int), (M : Int), h1, by omega, by rw [c1, IntKind.wrap_u64]; omega, ?_, by rw [c3, IntKind.wrap_u64]; omega, by omega, by omega, by omega, ?_, ?_⟩
  · have e1 : IntKind.u64.wrap ((hi * 2 ^ s : Nat) : Int) = ((hi * 2 ^ s : Nat) : Int) := by rw [IntKind.wrap_u64]; omega
    rw [c2, c4, e1, bits_or_u64_nat _ _ (by omega) (by omega), or_add _ _ _ hB]
  · have := Nat.mul_div_mul_right (hi * 18446744073709551616 + lo) y hps
    rw [hX] at this
    rw [← this]
    simp
  · have := Nat.mul_mod_mul_right (2 ^ s) (hi * 18446744073709551616 + lo) y
    rw [hX] at this
    have e : (((hi * 2 ^ s + B) * 18446744073709551616 + M) % (y * 2 ^ s)) / 2 ^ s = (hi * 18446744073709551616 + lo) % y := by
      rw [this, Nat.mul_div_cancel _ hps]
    rw [← e]
    simp
theorem low_half {a : Int} (h0 : 0 ≤ a) (h1 : a < 18446744073709551616) : bits .and .u64 a 4294967295 = a % 4294967296 := by
  obtain ⟨n, rfl⟩ := Int.eq_ofNat_of_zero_le h0
  rw [show (4294967295 : Int) = ((4294967295 : Nat) : Int) from rfl, bits_and_u64_nat n 4294967295 (by omega) (by omega), Nat.and_two_pow_sub_one_eq_mod n 32]
  omega
/-- One round: the values as the walk meets them. -/
theorem look_round {U D Y1 Y0 q r : Int} (h : Big U D Y1 Y0) (k : Look U D Y1 Y0 q r) :
    ∃ P T q2 r2 : Int, IntKind.u64.wrap (q * Y0) = P ∧ IntKind.u64.wrap (4294967296 * r) = 4294967296 * r ∧ IntKind.u64.wrap (4294967296 * r + D) = T ∧ IntKind.u64.wrap (r + Y1) = r2 ∧
      ((q2 = q - 1 ∧ ∃ t2 : Bool, decide (4294967296 ≤ r2) = t2 ∧
        ((decide (4294967296 ≤ q) = false ∧ decide (T < P) = false ∧ q = (U * 4294967296 + D) / (Y1 * 4294967296 + Y0)) ∨
         ((decide (4294967296 ≤ q) = true ∨ (decide (4294967296 ≤ q) = false ∧ decide (T < P) = true)) ∧ 0 < q ∧ IntKind.u64.wrap (q - 1) = q2 ∧
           (t2 = true → q2 = (U * 4294967296 + D) / (Y1 * 4294967296 + Y0)) ∧ (t2 = false → Look U D Y1 Y0 q2 r2))))) := by
  have b1 := h.y0
  have b2 := h.y1
  have b3 := h.d
  have p0 : 0 ≤ q * Y0 := Int.mul_nonneg k.q0 b1.1
  have p1 : q * Y0 ≤ 4294967297 * 4294967295 := by
    have a1 : q * Y0 ≤ 4294967297 * Y0 := Int.mul_le_mul_of_nonneg_right k.q1 b1.1
    omega
  have r0 := k.r0
  have r1 := k.r1
  have q0 := k.q0
  have q1 := k.q1
  refine ⟨q * Y0, 4294967296 * r + D, q - 1, r + Y1, by rw [IntKind.wrap_u64]; omega, by rw [IntKind.wrap_u64]; omega, by rw [IntKind.wrap_u64]; omega, by rw [IntKind.wrap_u64]; omega, rfl, _, rfl, ?_⟩
  by_cases hc : 4294967296 ≤ q ∨ 4294967296 * r + D < q * Y0
  · refine .inr ⟨?_, (look_less h k hc).1, by have := (look_less h k hc).1; rw [IntKind.wrap_u64]; omega, fun ht => look_break h k hc (by simpa using ht), fun ht => look_next h k hc (by simpa using ht)⟩
    by_cases h1 : 4294967296 ≤ q
    · exact .inl (by simpa using h1)
    · exact .inr ⟨by simpa using h1, by simp; omega⟩
  · exact .inl ⟨by simp; omega, by simp; omega, look_end h k (by omega)⟩

set_option maxRecDepth 100000 in
set_option maxHeartbeats 4000000 in
theorem pdiv (hi lo y : Nat) (hy : hi < y) (yM : y < 18446744073709551616) (hl : lo < 18446744073709551616) (w : World) :
    Calls Try.prog 36 #[.int .u64 hi, .int .u64 lo, .int .u64 y] w fun e w' => e = .returned (.tuple #[.int .u64 ((hi * 18446744073709551616 + lo) / y : Nat), .int .u64 ((hi * 18446744073709551616 + lo) % y : Nat)]) ∧ ∃ n, w' = w.drewN n := by
  have d1 : ¬ y = 0 := by omega
  have d2 : decide (y ≤ hi) = false := by simp; omega
  by_cases hz : hi = 0
  · subst hz
    have d3 : (((0 : Nat) : Int) == 0) = true := rfl
    go_enter Try.func36, Try.ntmps36
    go_wp2
    go_quiet (fail)
    go_wp2
    go_ret2
    refine ⟨?_, _, rfl⟩
    have e1 : IntKind.u64.wrap ((lo : Int) / y) = (lo : Int) / y := by
      have a := Int.ediv_nonneg (show (0 : Int) ≤ lo by omega) (show (0 : Int) ≤ y by omega)
      have b := Int.ediv_le_self (y : Int) (show (0 : Int) ≤ lo by omega)
      rw [IntKind.wrap_u64]
      omega
    rw [e1]
    simp
  · have d3 : ((hi : Int) == 0) = false := by simpa using hz
    obtain ⟨s, Y, U, L, s63, hs, eY, eU, eL, ⟨y1, y2⟩, ⟨u1, u2⟩, ⟨l1, l2⟩, hq, hr⟩ := norm hi lo y hy yM hl
    have HL : Hid (∀ w, Calls Try.prog 38 #[.int .u64 y] w fun e w' => e = .returned (.int .i64 s) ∧ w' = w) := by
      intro w
      have := Try.bits_LeadingZeros64 y w (by omega) (by omega)
      rw [Int.toNat_natCast, hs] at this
      exact this
    obtain ⟨QQ, hQQ⟩ : ∃ QQ, QQ = ((hi * 18446744073709551616 + lo) / y : Nat) := ⟨_, rfl⟩
    obtain ⟨RR, hRR⟩ : ∃ RR, RR = ((hi * 18446744073709551616 + lo) % y : Nat) := ⟨_, rfl⟩
    rw [← hQQ] at hq ⊢
    rw [← hRR] at hr ⊢
    clear hQQ hRR hs
    obtain ⟨Y1, hY1⟩ : ∃ Y1 : Int, Y / 4294967296 = Y1 := ⟨_, rfl⟩
    obtain ⟨Y0, hY0⟩ : ∃ Y0 : Int, bits .and .u64 Y 4294967295 = Y0 := ⟨_, rfl⟩
    obtain ⟨L1, hL1⟩ : ∃ L1 : Int, L / 4294967296 = L1 := ⟨_, rfl⟩
    obtain ⟨L0, hL0⟩ : ∃ L0 : Int, bits .and .u64 L 4294967295 = L0 := ⟨_, rfl⟩
    have k1 := hY0
    rw [low_half (by omega) y2] at k1
    have k2 := hL0
    rw [low_half l1 l2] at k2
    have HB1 : Hid (Big U L1 Y1 Y0) := ⟨⟨by omega, by omega⟩, ⟨by omega, by omega⟩, ⟨u1, by omega⟩, by omega, by omega⟩
    have HLf := look_first HB1.out
    obtain ⟨Q, hQ⟩ : ∃ Q : Int, IntKind.u64.wrap (U.tdiv Y1) = Q := ⟨_, rfl⟩
    obtain ⟨R, hR⟩ : ∃ R : Int, IntKind.u64.wrap (U - IntKind.u64.wrap (Q * Y1)) = R := ⟨_, rfl⟩
    have hYs : Y1 * 4294967296 + Y0 = Y := by omega
    have hLs : L1 * 4294967296 + L0 = L := by omega
    have hz1 : (Y1 == 0) = false := by simp; omega
    have HK : Hid (Look U L1 Y1 Y0 Q R) := by
      have t1 : U.tdiv Y1 = U / Y1 := Int.tdiv_eq_ediv_of_nonneg u1
      have eQ : Q = U / Y1 := by
        rw [← hQ, t1, IntKind.wrap_u64]
        have := HLf.q0
        have := HLf.q1
        omega
      have eR : R = U - U / Y1 * Y1 := by
        have h1 := HLf.r0
        have h2 := HLf.r1
        rw [← hR, eQ, IntKind.wrap_u64, IntKind.wrap_u64]
        omega
      rw [eQ, eR]
      exact HLf
    have HY : Hid (Y1 * 4294967296 + Y0 = Y) := hYs
    have HLs : Hid (L1 * 4294967296 + L0 = L) := hLs
    have Hq : Hid ((QQ : Int) = (U * 18446744073709551616 + L) / Y) := hq
    have Hr : Hid ((RR : Int) = (U * 18446744073709551616 + L) % Y / 2 ^ s) := hr
    clear k1 k2 HLf hYs hLs hq hr
    go_enter Try.func36, Try.ntmps36
    go_wp2_with fail
    refine (HL.out _).mono ?_
    rintro e w' ⟨rfl, rfl⟩
    go_upto_block 0 with fail
    obtain ⟨Q1, hQ1⟩ : ∃ Q1, Q1 = (U * 4294967296 + L1) / Y := ⟨_, rfl⟩
    have HQ1 : Hid (Q1 = (U * 4294967296 + L1) / Y) := hQ1
    clear hQ1
    go_cut [15] (fun s15 wx => s15 = .int .u64 Q1 ∧ wx = w')
    case first =>
      go_wp2
      go_loop [15, 16] (fun s15 s16 => ∃ q r : Int, s15 = .int .u64 q ∧ s16 = .int .u64 r ∧ Hid (Look U L1 Y1 Y0 q r)) (fun s15 _ => (intOf s15).toNat)
      case atStart => exact ⟨Q, R, rfl, rfl, HK⟩
      case round =>
        obtain ⟨q, r, rfl, rfl, HKq⟩ := hrel
        obtain ⟨P, T, q2, r2, e1, e2, e3, e4, hq2, t2, e5, hway⟩ := look_round HB1.out HKq.out
        rw [HY.out] at hway
        have HQ2 : Hid (q2 = q - 1) := hq2
        have hz2 : (Y1 == 0) = false := hz1
        clear hq2 hY1 hY0 hL1 hL0 hQ hR eY eU eL HKq HK
        rcases hway with ⟨c1, c2, hend⟩ | ⟨hc, hpos, e6, hbr, hgo⟩
        · have HE : Hid (q = Q1) := hend.trans HQ1.out.symm
          clear hend e5
          go_wp2
          go_meet
          exact ⟨by rw [HE.out], rfl⟩
        · cases t2 with
          | true =>
            have HE : Hid (q2 = Q1) := (hbr rfl).trans HQ1.out.symm
            clear hbr hgo
            rcases hc with c1 | ⟨c1, c2⟩
            all_goals
              go_wp2
              go_meet
              exact ⟨by rw [HE.out], rfl⟩
          | false =>
            have HE : Hid (Look U L1 Y1 Y0 q2 r2) := hgo rfl
            have HM : Hid (q2.toNat < q.toNat) := by show _ < _; rw [HQ2.out]; omega
            clear hbr hgo
            rcases hc with c1 | ⟨c1, c2⟩
            all_goals
              go_wp2
              exact ⟨⟨q2, r2, rfl, rfl, HE⟩, by simp only [intOf]; exact HM.out⟩
    case rest =>
      obtain ⟨rfl, rfl⟩ := hcut
      obtain ⟨R1, hR1⟩ : ∃ R1, (U * 4294967296 + L1) % Y = R1 := ⟨_, rfl⟩
      have HR1 : Hid (R1 = (U * 4294967296 + L1) % Y) := hR1.symm
      have eR1 : IntKind.u64.wrap (IntKind.u64.wrap (IntKind.u64.wrap (U * 4294967296) + L1) - IntKind.u64.wrap (Q1 * Y)) = R1 := by
        simp only [IntKind.wrap_u64]
        rw [← hR1]
        exact left_over (by omega) y2 HQ1.out
      have HB2 : Hid (Big R1 L0 Y1 Y0) := by
        have hb := HB1.out
        have k2 := hL0
        rw [low_half l1 l2] at k2
        have m0 := Int.emod_nonneg (U * 4294967296 + L1) (b := Y) (by omega)
        have m1 := Int.emod_lt_of_pos (U * 4294967296 + L1) (b := Y) (by omega)
        rw [hR1] at m0 m1
        exact ⟨hb.y1, hb.y0, ⟨m0, by rw [HY.out]; exact m1⟩, by omega, by omega⟩
      have HLf := look_first HB2.out
      obtain ⟨q, hq⟩ : ∃ q : Int, IntKind.u64.wrap (R1.tdiv Y1) = q := ⟨_, rfl⟩
      obtain ⟨r, hr⟩ : ∃ r : Int, IntKind.u64.wrap (R1 - IntKind.u64.wrap (q * Y1)) = r := ⟨_, rfl⟩
      have HK2 : Hid (Look R1 L0 Y1 Y0 q r) := by
        have t1 : R1.tdiv Y1 = R1 / Y1 := Int.tdiv_eq_ediv_of_nonneg HB2.out.u.1
        have eQ : q = R1 / Y1 := by
          rw [← hq, t1, IntKind.wrap_u64]
          have := HLf.q0
          have := HLf.q1
          omega
        have eR : r = R1 - R1 / Y1 * Y1 := by
          have h1 := HLf.r0
          have h2 := HLf.r1
          rw [← hr, eQ, IntKind.wrap_u64, IntKind.wrap_u64]
          omega
        rw [eQ, eR]
        exact HLf
      have HL12 : Hid (0 ≤ L1 ∧ 0 ≤ L0 ∧ L1 < 4294967296 ∧ L0 < 4294967296) := ⟨HB1.out.d.1, HB2.out.d.1, HB1.out.d.2, HB2.out.d.2⟩
      have HH1 : Hid (0 ≤ Q1 ∧ Q1 < 4294967296) := by
        have := look_half HB1.out
        rw [HY.out, ← HQ1.out] at this
        exact this
      have hz3 : ¬ Y1 = 0 := by simpa using hz1
      clear HLf hR1 hQ hR eU eL eY hY1 hL1 hL0 hY0 HK
      go_upto_block 2 with fail
      obtain ⟨Q0, hQ0⟩ : ∃ Q0, Q0 = (R1 * 4294967296 + L0) / Y := ⟨_, rfl⟩
      have HQ0 : Hid (Q0 = (R1 * 4294967296 + L0) / Y) := hQ0
      clear hQ0
      go_cut [18] (fun s18 wx => s18 = .int .u64 Q0 ∧ wx = wc)
      case first =>
        go_wp2
        go_loop [18, 16] (fun s18 s16 => ∃ q r : Int, s18 = .int .u64 q ∧ s16 = .int .u64 r ∧ Hid (Look R1 L0 Y1 Y0 q r)) (fun s18 _ => (intOf s18).toNat)
        case atStart => exact ⟨q, r, rfl, rfl, HK2⟩
        case round =>
          clear hq hr eR1
          obtain ⟨q, r, rfl, rfl, HKq⟩ := hrel
          obtain ⟨P, T, q2, r2, e1, e2, e3, e4, hq2, t2, e5, hway⟩ := look_round HB2.out HKq.out
          rw [HY.out] at hway
          have HQ2 : Hid (q2 = q - 1) := hq2
          have hz2 : (Y1 == 0) = false := hz1
          clear hq2 HKq HK2
          rcases hway with ⟨c1, c2, hend⟩ | ⟨hc, hpos, e6, hbr, hgo⟩
          · have HE : Hid (q = Q0) := hend.trans HQ0.out.symm
            clear hend e5
            go_wp2
            go_meet
            exact ⟨by rw [HE.out], rfl⟩
          · cases t2 with
            | true =>
              have HE : Hid (q2 = Q0) := (hbr rfl).trans HQ0.out.symm
              clear hbr hgo
              rcases hc with c1 | ⟨c1, c2⟩
              all_goals
                go_wp2
                go_meet
                exact ⟨by rw [HE.out], rfl⟩
            | false =>
              have HE : Hid (Look R1 L0 Y1 Y0 q2 r2) := hgo rfl
              have HM : Hid (q2.toNat < q.toNat) := by show _ < _; rw [HQ2.out]; omega
              clear hbr hgo
              rcases hc with c1 | ⟨c1, c2⟩
              all_goals
                go_wp2
                exact ⟨⟨q2, r2, rfl, rfl, HE⟩, by simp only [intOf]; exact HM.out⟩
      case rest =>
        obtain ⟨rfl, rfl⟩ := hcut
        have hfin := two_halves (U := U) (D1 := L1) (D0 := L0) (Y := Y) (by omega) HQ1.out HR1.out HQ0.out rfl
        have eX : (U * 4294967296 + L1) * 4294967296 + L0 = U * 18446744073709551616 + L := by have := HLs.out; omega
        rw [eX] at hfin
        have hh := look_half HB2.out
        rw [HY.out, ← HQ0.out] at hh
        have h1 := HH1.out
        obtain ⟨R0, hR0⟩ : ∃ R0, (R1 * 4294967296 + L0) % Y = R0 := ⟨_, rfl⟩
        have eR0 : IntKind.u64.wrap (IntKind.u64.wrap (IntKind.u64.wrap (R1 * 4294967296) + L0) - IntKind.u64.wrap (Q0 * Y)) = R0 := by
          simp only [IntKind.wrap_u64]
          rw [← hR0]
          exact left_over (by omega) y2 HQ0.out
        have eQ : IntKind.u64.wrap (IntKind.u64.wrap (Q1 * 4294967296) + Q0) = QQ := by
          rw [Hq.out, ← hfin.1]
          simp only [IntKind.wrap_u64]
          omega
        have eR : R0 / 2 ^ s = RR := by rw [Hr.out, ← hfin.2, hR0]
        clear hfin eX hh h1 hR0 hq hr HK2 eR1
        go_wp2
        go_ret2
        exact ⟨rfl, 0, rfl⟩
end Go.Proofs.Ytimgpikgkbjliaa
