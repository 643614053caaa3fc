/-
  A number of two words divided by one: the arithmetic, half word by half word. No program is named here.
-/
import Derived.Test.YtimgpikgkbjliaaMem
import Derived.Laws.Bits64b
namespace Go.Proofs.Ytimgpikgkbjliaa
open Go.RowKit

/-- What a half's quotient is looked for by: Q so far, R what is left by the upper half. -/
structure Look (U D Y1 Y0 Q R : Int) : Prop where
  q0 : 0 ≤ Q
  q1 : Q ≤ 4294967297
  r0 : 0 ≤ R
  r1 : R < 4294967296
  sum : Q * Y1 + R = U
  up : U * 4294967296 + D < (Q + 1) * (Y1 * 4294967296 + Y0)
/-- A divisor whose first bit is on, and what is to be divided. -/
structure Big (U D Y1 Y0 : Int) : Prop where
  y1 : 2147483648 ≤ Y1 ∧ Y1 < 4294967296
  y0 : 0 ≤ Y0 ∧ Y0 < 4294967296
  u : 0 ≤ U ∧ U < Y1 * 4294967296 + Y0
  d : 0 ≤ D ∧ D < 4294967296

theorem add_one_mul (a b : Int) : (a + 1) * b = a * b + b := by rw [Int.add_mul, Int.one_mul]
theorem sub_one_mul (a b : Int) : (a - 1) * b = a * b - b := by rw [Int.sub_mul, Int.one_mul]
theorem mul_two (q y1 y0 : Int) : q * (y1 * 4294967296 + y0) = q * y1 * 4294967296 + q * y0 := by rw [Int.mul_add, Int.mul_assoc]

theorem look_first {U D Y1 Y0 : Int} (h : Big U D Y1 Y0) : Look U D Y1 Y0 (U / Y1) (U - U / Y1 * Y1) := by
  obtain ⟨⟨a1, a2⟩, ⟨b1, b2⟩, ⟨c1, c2⟩, d1, d2⟩ := h
  have e : U / Y1 * Y1 + U % Y1 = U := by rw [Int.mul_comm]; exact Int.mul_ediv_add_emod U Y1
  have m0 := Int.emod_nonneg U (b := Y1) (by omega)
  have m1 := Int.emod_lt_of_pos U (b := Y1) (by omega)
  have q0 : 0 ≤ U / Y1 := Int.ediv_nonneg c1 (by omega)
  obtain ⟨Q, hQ⟩ : ∃ Q, Q = U / Y1 := ⟨_, rfl⟩
  rw [← hQ] at e q0 ⊢
  have up : (Q + 1) * (Y1 * 4294967296 + Y0) = (Q * Y1) * 4294967296 + Y1 * 4294967296 + (Q * Y0 + Y0) := by
    rw [mul_two, add_one_mul, add_one_mul, Int.add_mul]
  have p0 : 0 ≤ Q * Y0 := Int.mul_nonneg q0 b1
  refine ⟨q0, ?_, by omega, by omega, by omega, by rw [up]; omega⟩
  have hlt : ¬ 4294967298 ≤ Q := by
    intro hq
    have := Int.mul_le_mul_of_nonneg_right hq (show 0 ≤ Y1 by omega)
    omega
  omega
/-- One less. -/
theorem look_less {U D Y1 Y0 Q R : Int} (h : Big U D Y1 Y0) (k : Look U D Y1 Y0 Q R) (hc : 4294967296 ≤ Q ∨ 4294967296 * R + D < Q * Y0) :
    0 < Q ∧ (Q - 1) * Y1 + (R + Y1) = U ∧ U * 4294967296 + D < ((Q - 1) + 1) * (Y1 * 4294967296 + Y0) := by
  obtain ⟨⟨a1, a2⟩, ⟨b1, b2⟩, ⟨c1, c2⟩, d1, d2⟩ := h
  obtain ⟨q0, q1, r0, r1, sum, up⟩ := k
  have lt : U * 4294967296 + D < Q * (Y1 * 4294967296 + Y0) := by
    rcases hc with hc | hc
    · have := Int.mul_le_mul_of_nonneg_right hc (show 0 ≤ Y1 * 4294967296 + Y0 by omega)
      omega
    · rw [mul_two]; omega
  refine ⟨?_, by rw [sub_one_mul]; omega, by rw [Int.sub_add_cancel]; exact lt⟩
  by_cases hq : Q = 0
  · subst hq
    simp at lt
    omega
  · omega
theorem look_next {U D Y1 Y0 Q R : Int} (h : Big U D Y1 Y0) (k : Look U D Y1 Y0 Q R) (hc : 4294967296 ≤ Q ∨ 4294967296 * R + D < Q * Y0) (hr : R + Y1 < 4294967296) :
    Look U D Y1 Y0 (Q - 1) (R + Y1) := by
  obtain ⟨h1, h2, h3⟩ := look_less h k hc
  have := k.q1
  have := k.r0
  have := h.y1.1
  exact ⟨by omega, by omega, by omega, hr, h2, h3⟩
theorem div_is {X Y Q : Int} (hY : 0 < Y) (h1 : Q * Y ≤ X) (h2 : X < (Q + 1) * Y) : Q = X / Y := by
  have a : Q ≤ X / Y := (Int.le_ediv_iff_mul_le hY).2 h1
  have b : X / Y < Q + 1 := (Int.ediv_lt_iff_lt_mul hY).2 h2
  omega
theorem look_end {U D Y1 Y0 Q R : Int} (h : Big U D Y1 Y0) (k : Look U D Y1 Y0 Q R) (h2 : Q * Y0 ≤ 4294967296 * R + D) :
    Q = (U * 4294967296 + D) / (Y1 * 4294967296 + Y0) := by
  have hy : 0 < Y1 * 4294967296 + Y0 := by have := h.y1; have := h.y0; omega
  refine div_is hy ?_ k.up
  have := k.sum
  rw [mul_two]
  omega
theorem look_break {U D Y1 Y0 Q R : Int} (h : Big U D Y1 Y0) (k : Look U D Y1 Y0 Q R) (hc : 4294967296 ≤ Q ∨ 4294967296 * R + D < Q * Y0) (hr : 4294967296 ≤ R + Y1) :
    Q - 1 = (U * 4294967296 + D) / (Y1 * 4294967296 + Y0) := by
  obtain ⟨h1, h2, h3⟩ := look_less h k hc
  have hq := k.q1
  obtain ⟨⟨a1, a2⟩, ⟨b1, b2⟩, ⟨c1, c2⟩, d1, d2⟩ := h
  have hy : 0 < Y1 * 4294967296 + Y0 := by omega
  refine div_is hy ?_ h3
  rw [mul_two]
  have : (Q - 1) * Y0 ≤ 4294967296 * Y0 := Int.mul_le_mul_of_nonneg_right (by omega) b1
  omega
/-- The quotient found is of a half word. -/
theorem look_half {U D Y1 Y0 : Int} (h : Big U D Y1 Y0) : 0 ≤ (U * 4294967296 + D) / (Y1 * 4294967296 + Y0) ∧ (U * 4294967296 + D) / (Y1 * 4294967296 + Y0) < 4294967296 := by
  obtain ⟨⟨a1, a2⟩, ⟨b1, b2⟩, ⟨c1, c2⟩, d1, d2⟩ := h
  refine ⟨Int.ediv_nonneg (by omega) (by omega), ?_⟩
  rw [Int.ediv_lt_iff_lt_mul (by omega)]
  omega
/-- What is left, as the words go round. -/
theorem left_over {U D Y Q : Int} (hY : 0 < Y) (hM : Y < 18446744073709551616) (hQ : Q = (U * 4294967296 + D) / Y) :
    (((U * 4294967296) % 18446744073709551616 + D) % 18446744073709551616 - (Q * Y) % 18446744073709551616) % 18446744073709551616 = (U * 4294967296 + D) % Y := by
  have e : Q * Y + (U * 4294967296 + D) % Y = U * 4294967296 + D := by rw [hQ, Int.mul_comm]; exact Int.mul_ediv_add_emod _ _
  have m0 := Int.emod_nonneg (U * 4294967296 + D) (b := Y) (by omega)
  have m1 := Int.emod_lt_of_pos (U * 4294967296 + D) (b := Y) hY
  generalize (U * 4294967296 + D) % Y = r at *
  generalize Q * Y = P at *
  omega
/-- Both halves. -/
theorem two_halves {U D1 D0 Y Q1 R1 Q0 R0 : Int} (hY : 0 < Y) (hQ1 : Q1 = (U * 4294967296 + D1) / Y) (hR1 : R1 = (U * 4294967296 + D1) % Y) (hQ0 : Q0 = (R1 * 4294967296 + D0) / Y) (hR0 : R0 = (R1 * 4294967296 + D0) % Y) :
    Q1 * 4294967296 + Q0 = ((U * 4294967296 + D1) * 4294967296 + D0) / Y ∧ R0 = ((U * 4294967296 + D1) * 4294967296 + D0) % Y := by
  have e1 : Q1 * Y + R1 = U * 4294967296 + D1 := by rw [hQ1, hR1, Int.mul_comm]; exact Int.mul_ediv_add_emod _ _
  have e0 : Q0 * Y + R0 = R1 * 4294967296 + D0 := by rw [hQ0, hR0, Int.mul_comm]; exact Int.mul_ediv_add_emod _ _
  have m0 : 0 ≤ R0 := by rw [hR0]; exact Int.emod_nonneg _ (by omega)
  have m1 : R0 < Y := by rw [hR0]; exact Int.emod_lt_of_pos _ hY
  have e : (U * 4294967296 + D1) * 4294967296 + D0 = R0 + (Q1 * 4294967296 + Q0) * Y := by
    rw [← e1, Int.add_mul, Int.add_mul]
    have : Q1 * 4294967296 * Y = Q1 * Y * 4294967296 := by rw [Int.mul_assoc, Int.mul_comm 4294967296 Y, ← Int.mul_assoc]
    rw [this]
    omega
  rw [e, Int.add_mul_ediv_right _ _ (by omega), Int.add_mul_emod_self_right, Int.ediv_eq_zero_of_lt m0 m1, Int.emod_eq_of_lt m0 m1]
  exact ⟨by omega, rfl⟩
end Go.Proofs.Ytimgpikgkbjliaa
