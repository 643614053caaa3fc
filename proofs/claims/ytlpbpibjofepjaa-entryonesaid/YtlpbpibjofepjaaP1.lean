/-
  Entries as words: the arithmetic; two entries compared; the contracts of widths, flag, mayBe.
-/
import Derived.Test.YtlpbpibjofepjaaBack
import Derived.Laws.BitsAllLaws
namespace Go.Proofs.Ytlpbpibjofepjaa
open Go.RowKit

/-! ### the arithmetic -/
/-- The fields' widths. -/
def Ws : List Int := [2, 24, 1, 1]
def bi (b : Bool) : Int := if b then 1 else 0
/-- Is there such an entry, its page aside? -/
def mayB (k p : Int) (a b : Bool) : Bool := if k = 0 then p == 0 && !a && !b else k == 1 || k == 2
/-- May it be packed? -/
def packOk (k p : Int) (a b : Bool) : Bool := mayB k p a b && (decide (0 ≤ p) && decide (p < 16777216))
/-- Its word. -/
def wordOf (k p : Int) (a b : Bool) : Nat := k.toNat + 4 * p.toNat + 67108864 * a.toNat + 134217728 * b.toNat
def packX (k p : Int) (a b : Bool) : Nat := if packOk k p a b then wordOf k p a b else 0
def packE (k p : Int) (a b : Bool) : Int := if packOk k p a b then 0 else 1
/-- Is a word that of an entry? -/
def isEnt (x : Nat) : Bool := decide (x < 268435456) && (x == 0 || x % 4 == 1 || x % 4 == 2)
def eK (x : Nat) : Int := if isEnt x then ((x % 4 : Nat) : Int) else 0
def eP (x : Nat) : Int := if isEnt x then ((x / 4 % 16777216 : Nat) : Int) else 0
def eW (x : Nat) : Bool := isEnt x && x / 67108864 % 2 == 1
def eT (x : Nat) : Bool := isEnt x && x / 134217728 % 2 == 1
def eE (x : Nat) : Int := if isEnt x then 0 else 1
/-- A word with one bit so. -/
def setb (x i : Nat) (on : Bool) : Nat := x / 2 ^ (i + 1) * 2 ^ (i + 1) + on.toNat * 2 ^ i + x % 2 ^ i
def turnX (x i : Nat) (on : Bool) : Nat := if isEnt x && x != 0 then setb x i on else x

theorem mask_val (x i : Nat) (hx : x < 18446744073709551616) (hi : i < 64) : x &&& (18446744073709551615 - 2 ^ i) = x / 2 ^ (i + 1) * 2 ^ (i + 1) + x % 2 ^ i := by
  have e1 : x / 2 ^ (i + 1) * 2 ^ (i + 1) + x % 2 ^ i = (x / 2 ^ (i + 1) * 2 ^ (i + 1)) ||| (x % 2 ^ i) := by
    symm
    apply nat_join (i + 1)
    · simp
    · have := Nat.mod_lt x (pow_pos i)
      rw [Nat.pow_succ]
      omega
  have h2 : 2 ^ i < 2 ^ 64 := Nat.pow_lt_pow_right (by decide) hi
  have e2 : 18446744073709551615 - 2 ^ i = 2 ^ 64 - (2 ^ i + 1) := by omega
  rw [e1, e2]
  apply Nat.eq_of_testBit_eq
  intro j
  rw [Nat.testBit_and, Nat.testBit_two_pow_sub_succ h2, Nat.testBit_or, Nat.testBit_mod_two_pow, Nat.testBit_mul_two_pow, Nat.testBit_div_two_pow, Nat.testBit_two_pow]
  by_cases h64 : j < 64
  · by_cases hji : j < i
    · have : ¬ i = j := by omega
      have : ¬ i + 1 ≤ j := by omega
      simp [*]
    · by_cases hje : i = j
      · subst hje
        have h5 : ¬ i + 1 ≤ i := by omega
        simp [h5]
      · have h3 : i + 1 ≤ j := by omega
        have h4 : j - (i + 1) + (i + 1) = j := by omega
        simp [*]
  · have hf : x.testBit j = false := Nat.testBit_lt_two_pow (Nat.lt_of_lt_of_le hx (show 18446744073709551616 ≤ 2 ^ j from by have : 2 ^ 64 ≤ 2 ^ j := pow_le (by omega); omega))
    by_cases h3 : i + 1 ≤ j
    · have h4 : j - (i + 1) + (i + 1) = j := by omega
      simp [hf, h4]
    · omega

theorem setb_val (x i : Nat) (on : Bool) (hx : x < 18446744073709551616) (hi : i < 64) : (x &&& (18446744073709551615 - 2 ^ i)) ||| (on.toNat * 2 ^ i) = setb x i on := by
  rw [mask_val x i hx hi]
  have hL := Nat.mod_lt x (pow_pos i)
  have e1 : x / 2 ^ (i + 1) * 2 ^ (i + 1) + x % 2 ^ i = (x / 2 ^ (i + 1) * 2 ^ (i + 1)) ||| (x % 2 ^ i) := by
    symm
    apply nat_join (i + 1)
    · simp
    · rw [Nat.pow_succ]; omega
  have e2 : (on.toNat * 2 ^ i) ||| (x % 2 ^ i) = on.toNat * 2 ^ i + x % 2 ^ i := nat_join i _ _ (by simp) hL
  have hon : on.toNat ≤ 1 := by cases on <;> decide
  have h3 : on.toNat * 2 ^ i ≤ 2 ^ i := by
    have := Nat.mul_le_mul_right (2 ^ i) hon
    omega
  rw [e1, Nat.or_assoc, Nat.or_comm (x % 2 ^ i), e2, nat_join (i + 1) _ _ (by simp) (by rw [Nat.pow_succ]; omega)]
  unfold setb
  omega

theorem turn_val (x i : Nat) (on : Bool) (hx : x < 18446744073709551616) (hi : i < 64) : bits .or .u64 (bits .andNot .u64 (x : Int) ((2 ^ i : Nat) : Int)) ((on.toNat * 2 ^ i : Nat) : Int) = (setb x i on : Int) := by
  have h2 : 2 ^ i < 2 ^ 64 := Nat.pow_lt_pow_right (by decide) hi
  have hon : on.toNat ≤ 1 := by cases on <;> decide
  have h3 : on.toNat * 2 ^ i ≤ 2 ^ i := by
    have := Nat.mul_le_mul_right (2 ^ i) hon
    omega
  have h4 : x &&& (18446744073709551615 - 2 ^ i) ≤ x := Nat.and_le_left
  rw [u64_andNot_nat x _ hx (by omega), u64_or_nat _ _ (by omega) (by omega), setb_val x i on hx hi]

theorem isEnt_yes {x : Nat} (h : isEnt x = true) : x < 268435456 ∧ (x = 0 ∨ x % 4 = 1 ∨ x % 4 = 2) := by
  simpa [isEnt, or_assoc] using h
theorem isEnt_of {x : Nat} (h1 : x < 268435456) (h2 : x = 0 ∨ x % 4 = 1 ∨ x % 4 = 2) : isEnt x = true := by
  simpa [isEnt, or_assoc] using And.intro h1 h2
theorem isEnt_no {x : Nat} (h : isEnt x = false) : 268435456 ≤ x ∨ (x ≠ 0 ∧ x % 4 ≠ 1 ∧ x % 4 ≠ 2) := by
  by_cases h1 : x < 268435456
  · right
    refine ⟨fun e => ?_, fun e => ?_, fun e => ?_⟩ <;> rw [isEnt_of h1 (by omega)] at h <;> cases h
  · left; omega

theorem spanWs : SpanOk Ws := by
  intro k hk
  have : k < 4 := hk
  match k, this with
  | 0, _ => simp [Ws]
  | 1, _ => simp [Ws]
  | 2, _ => simp [Ws]
  | 3, _ => simp [Ws]
theorem sumWs : Ws.sum = 28 := by decide
theorem bi_toNat (b : Bool) : (bi b).toNat = b.toNat := by cases b <;> rfl
theorem pack_word (k p : Int) (a b : Bool) : packVal Ws [k, p, bi a, bi b] = wordOf k p a b := by
  simp only [Ws, packVal, bi_toNat, wordOf, show (2 : Int).toNat = 2 from rfl, show (24 : Int).toNat = 24 from rfl, show (1 : Int).toNat = 1 from rfl]
  omega
theorem fitWs (k p : Int) (a b : Bool) : Fit Ws [k, p, bi a, bi b] ↔ (0 ≤ k ∧ k ≤ 3) ∧ (0 ≤ p ∧ p < 16777216) := by
  constructor
  · intro h
    have h0 := h 0 (by decide) (by simp)
    have h1 := h 1 (by decide) (by simp)
    simp [Ws] at h0 h1
    omega
  · rintro ⟨h0, h1⟩ k hk hk'
    have : k < 4 := hk
    match k, this with
    | 0, _ => simp [Ws]; omega
    | 1, _ => simp [Ws]; omega
    | 2, _ => cases a <;> simp [Ws, bi]
    | 3, _ => cases b <;> simp [Ws, bi]
theorem unpack_vals (x : Nat) : unpackVals Ws x = [((x % 4 : Nat) : Int), ((x / 4 % 16777216 : Nat) : Int), ((x / 67108864 % 2 : Nat) : Int), ((x / 134217728 % 2 : Nat) : Int)] := by
  simp only [Ws, unpackVals, show (2 : Int).toNat = 2 from rfl, show (24 : Int).toNat = 24 from rfl, show (1 : Int).toNat = 1 from rfl, Nat.div_div_eq_div_mul]

/-! ### two entries compared -/
theorem guard24 : Try.prog.eqGuardType Try.prog.depth 24 = false := by kernel_rfl
theorem fields24 : Try.prog.fieldsOf 24 = #[{ name := "Kind", type := 22, offset := 0, embedded := false, tag := "", pkgPath := "", byteOffset := 0 }, { name := "Page", type := 3, offset := 1, embedded := false, tag := "", pkgPath := "", byteOffset := 8 }, { name := "Write", type := 4, offset := 2, embedded := false, tag := "", pkgPath := "", byteOffset := 16 }, { name := "Touched", type := 4, offset := 3, embedded := false, tag := "", pkgPath := "", byteOffset := 17 }] := by kernel_rfl
theorem under24 : Try.prog.underlying 24 = some (.struct (Try.prog.fieldsOf 24)) := by kernel_rfl
theorem stood24 : Try.prog.stoodInHeld 24 = false := by kernel_rfl
theorem plain22 : Try.prog.plainKey 22 = true := by kernel_rfl
theorem plain3 : Try.prog.plainKey 3 = true := by kernel_rfl
theorem plain4 : Try.prog.plainKey 4 = true := by kernel_rfl
def eqE (k p : Int) (a b : Bool) (k' p' : Int) (a' b' : Bool) : Bool := k == k' && (p == p' && (a == a' && b == b'))
theorem eq24 (k p : Int) (a b : Bool) (k' p' : Int) (a' b' : Bool) (w : World) :
    (Op.equalIn 10000 24 (.agg #[.int .i64 k, .int .i64 p, .bool a, .bool b]) (.agg #[.int .i64 k', .int .i64 p', .bool a', .bool b'])).run Try.prog w = .ok (eqE k p a b k' p' a' b') w := by
  have p0 := run_part_plain (P := Try.prog) w plain22 (xs := #[.int .i64 k, .int .i64 p, .bool a, .bool b]) (off := 0) (v := .int .i64 k) rfl
  have p1 := run_part_plain (P := Try.prog) w plain3 (xs := #[.int .i64 k, .int .i64 p, .bool a, .bool b]) (off := 1) (v := .int .i64 p) rfl
  have p2 := run_part_plain (P := Try.prog) w plain4 (xs := #[.int .i64 k, .int .i64 p, .bool a, .bool b]) (off := 2) (v := .bool a) rfl
  have p3 := run_part_plain (P := Try.prog) w plain4 (xs := #[.int .i64 k, .int .i64 p, .bool a, .bool b]) (off := 3) (v := .bool b) rfl
  have q0 := run_part_plain (P := Try.prog) w plain22 (xs := #[.int .i64 k', .int .i64 p', .bool a', .bool b']) (off := 0) (v := .int .i64 k') rfl
  have q1 := run_part_plain (P := Try.prog) w plain3 (xs := #[.int .i64 k', .int .i64 p', .bool a', .bool b']) (off := 1) (v := .int .i64 p') rfl
  have q2 := run_part_plain (P := Try.prog) w plain4 (xs := #[.int .i64 k', .int .i64 p', .bool a', .bool b']) (off := 2) (v := .bool a') rfl
  have q3 := run_part_plain (P := Try.prog) w plain4 (xs := #[.int .i64 k', .int .i64 p', .bool a', .bool b']) (off := 3) (v := .bool b') rfl
  have r0 : (Op.equalIn 9999 22 (.int .i64 k) (.int .i64 k')).run Try.prog w = .ok (k == k') w := run_equalIn_int (P := Try.prog) w 9998 22 .i64 .i64 k k' Try.underlying22
  have r1 : (Op.equalIn 9999 3 (.int .i64 p) (.int .i64 p')).run Try.prog w = .ok (p == p') w := run_equalIn_int (P := Try.prog) w 9998 3 .i64 .i64 p p' Try.underlying3
  have r2 : (Op.equalIn 9999 4 (.bool a) (.bool a')).run Try.prog w = .ok (a == a') w := run_equalIn_bool' (P := Try.prog) w 9998 4 a a' Try.underlying4
  have r3 : (Op.equalIn 9999 4 (.bool b) (.bool b')).run Try.prog w = .ok (b == b') w := run_equalIn_bool' (P := Try.prog) w 9998 4 b b' Try.underlying4
  rw [run_equalIn_agg (P := Try.prog) w 9999 24 _ _ under24 stood24, fields24]
  unfold eqE
  cases h0 : (k == k') <;> cases h1 : (p == p') <;> cases h2 : (a == a') <;> cases h3 : (b == b') <;> rw [h0] at r0 <;> rw [h1] at r1 <;> rw [h2] at r2 <;> rw [h3] at r3 <;> simp [Op.eqFields, p0, p1, p2, p3, q0, q1, q2, q3, r0, r1, r2, r3]

/-! ### widths, flag, mayBe -/
theorem pwidths (w : World) : Calls Try.prog 22 #[] w fun e w' => e = .returned (.slice (some ⟨w.heap.size, 0, none⟩) 4 4) ∧ IntsAt w' (some ⟨w.heap.size, 0, none⟩) Ws ∧ Below w.heap.size w w' ∧ w'.heap.size = w.heap.size + 1 := by
  go_enter Try.func22, Try.ntmps22
  go_wp2
  go_ret
  refine ⟨rfl, IntsAt.of_row (t := 3) ?_, below_alloc _ _, by simp⟩
  exact RowAt.new w _ 3

theorem pflag (b : Bool) (w : World) : Calls Try.prog 23 #[.bool b] w fun e w' => e = .returned (.int .u64 (bi b)) ∧ w' = w := by
  cases b
  · go_enter Try.func23, Try.ntmps23
    go_wp2
    go_ret
    exact ⟨rfl, rfl⟩
  · go_enter Try.func23, Try.ntmps23
    go_wp2
    go_ret
    exact ⟨rfl, rfl⟩

theorem eqE_zero {p : Int} {a b : Bool} : eqE 0 p a b 0 0 false false = mayB 0 p a b := by
  cases a <;> cases b <;> simp [eqE, mayB]
set_option maxHeartbeats 1000000 in
theorem pmayBe (k p : Int) (a b : Bool) (w : World) : Calls Try.prog 20 #[.agg #[.int .i64 k, .int .i64 p, .bool a, .bool b]] w fun e w' => e = .returned (.bool (mayB k p a b)) ∧ Below w.heap.size w w' := by
  have hbel := below_alloc w (.cells #[.int .i64 k, .int .i64 p, .bool a, .bool b] 24)
  by_cases h0 : k = 0
  · subst h0
    have hqq := fun w => eq24 0 p a b 0 0 false false w
    have hgt := guard24
    go_enter Try.func20, Try.ntmps20
    go_wp2
    go_ret
    exact ⟨by rw [eqE_zero]; rfl, hbel⟩
  · have h1 : (k == 0) = false := by simp [h0]
    have HM : Hid (mayB k p a b = (k == 1 || k == 2)) := by show _ = _; simp [mayB, h0]
    clear h0
    cases h2 : (k == 1)
    · go_enter Try.func20, Try.ntmps20
      go_wp2
      go_ret
      exact ⟨by rw [HM.out, h2]; simp, hbel⟩
    · go_enter Try.func20, Try.ntmps20
      go_wp2
      go_ret
      exact ⟨by rw [HM.out, h2]; simp, hbel⟩
end Go.Proofs.Ytlpbpibjofepjaa
