/-
  The law EntryBits, walked: for every input it answers true.
-/
import Derived.Test.YtlpbpibjofepjaaLPacks
namespace Go.Proofs.Ytlpbpibjofepjaa
open Go.RowKit

theorem word_eq {k p : Int} {a b : Bool} {k' p' : Int} {a' b' : Bool} (h : packOk k p a b = true) (h' : packOk k' p' a' b' = true) :
    (((wordOf k p a b : Nat) : Int) == ((wordOf k' p' a' b' : Nat) : Int)) = eqE k p a b k' p' a' b' := by
  by_cases e : wordOf k p a b = wordOf k' p' a' b'
  · obtain ⟨rfl, rfl, rfl, rfl⟩ := word_inj h h' e
    rw [eqE_same]; simp
  · have h1 : (((wordOf k p a b : Nat) : Int) == ((wordOf k' p' a' b' : Nat) : Int)) = false := by simp; omega
    rw [h1]
    cases hq : eqE k p a b k' p' a' b' with
    | false => rfl
    | true =>
      simp [eqE] at hq
      obtain ⟨rfl, rfl, rfl, rfl⟩ := hq
      exact absurd rfl e

set_option maxRecDepth 100000 in
set_option maxHeartbeats 4000000 in
theorem bits11 (k p : Int) (a b : Bool) (k' p' : Int) (a' b' : Bool) (w : World) (hp : -9223372036854775808 ≤ p ∧ p ≤ 9223372036854775807) (hp' : -9223372036854775808 ≤ p' ∧ p' ≤ 9223372036854775807) (ho : packOk k p a b = true) (ho' : packOk k' p' a' b' = true) :
    Calls Try.prog 7 #[.agg #[.int .i64 k, .int .i64 p, .bool a, .bool b], .agg #[.int .i64 k', .int .i64 p', .bool a', .bool b']] w fun e w' => e = .returned (.bool true) ∧ Below w.heap.size w w' := by
  obtain ⟨X, hX⟩ : ∃ X, X = wordOf k p a b := ⟨_, rfl⟩
  have H1 : Hid (∀ w, Calls Try.prog 10 #[.agg #[.int .i64 k, .int .i64 p, .bool a, .bool b]] w fun e w' => e = .returned (.tuple #[.int .u64 X, .int .i64 0]) ∧ Below w.heap.size w w') := by
    intro w
    have := ppack k p a b w hp
    rw [packX_ok ho, packE_ok ho, ← hX] at this
    exact this
  obtain ⟨Y, hY⟩ : ∃ X, X = wordOf k' p' a' b' := ⟨_, rfl⟩
  have H2 : Hid (∀ w, Calls Try.prog 10 #[.agg #[.int .i64 k', .int .i64 p', .bool a', .bool b']] w fun e w' => e = .returned (.tuple #[.int .u64 Y, .int .i64 0]) ∧ Below w.heap.size w w') := by
    intro w
    have := ppack k' p' a' b' w hp'
    rw [packX_ok ho', packE_ok ho', ← hY] at this
    exact this
  have hgt := guard24
  have hq1 := fun w => eq24 k p a b k' p' a' b' w
  have hq2 := fun w => eq24 k p a b 0 0 false false w
  have e1 : ((X : Int) == (Y : Int)) = eqE k p a b k' p' a' b' := by rw [hX, hY]; exact word_eq ho ho'
  have e2 : ((X : Int) == 0) = eqE k p a b 0 0 false false := by rw [hX]; exact word_eq ho packOk_zero
  have e3 : (X : Int) < 268435456 := by have := (word_ent ho).2.2.2.2.2.2; omega
  obtain ⟨Q, hQ⟩ : ∃ Q, Q = eqE k p a b k' p' a' b' := ⟨_, rfl⟩
  obtain ⟨R, hR⟩ : ∃ Q, Q = eqE k p a b 0 0 false false := ⟨_, rfl⟩
  rw [← hQ] at hq1 e1
  rw [← hR] at hq2 e2
  have q1 : (Q == Q) = true := by simp
  have q2 : (R == R) = true := by simp
  clear hX hY hQ hR
  clear ho ho' hp hp'
  obtain ⟨wa, hwa, hra, hBa, -⟩ := boxOn w w (.int .i64 k) (.int .i64 p) (.bool a) (.bool b) (Below.refl _ _)
  have hsa : wa.heap.size = w.heap.size + 1 := by rw [hwa]; simp
  obtain ⟨w0, hw0, hs0, hB0, hk0⟩ := boxOn w wa (.int .i64 k') (.int .i64 p') (.bool a') (.bool b') hBa
  have hr0 := hk0 _ _ _ hra
  rw [hsa] at hs0
  rw [hwa] at hw0
  clear hra hBa hk0 hsa hwa wa
  go_enter Try.func7, Try.ntmps7
  go_wp2_with fail
  rw [← hw0]
  clear hw0
  refine (works_any _).mono ?_
  rintro e w1 ⟨rfl, hb1⟩
  have hr1 := hr0.later hb1
  have hs1 := hs0.later hb1
  have hB1 := bel_trans hB0 hb1
  clear hr0 hB0 hb1 hs0
  obtain ⟨c0, c1, c2, c3⟩ := hr1.four
  go_wp2_with fail
  refine (H1.out _).mono ?_
  rintro e w2 ⟨rfl, hb2⟩
  have hr2 := hr1.later hb2
  have hs2 := hs1.later hb2
  have hB2 := bel_trans hB1 hb2
  clear hr1 hs1 hB1 hb2 c0 c1 c2 c3
  obtain ⟨c0, c1, c2, c3⟩ := hs2.four
  go_wp2_with fail
  refine (H2.out _).mono ?_
  rintro e w3 ⟨rfl, hb3⟩
  have hr3 := hr2.later hb3
  have hs3 := hs2.later hb3
  have hB3 := bel_trans hB2 hb3
  clear hr2 hs2 hB2 hb3 c0 c1 c2 c3
  obtain ⟨c0, c1, c2, c3⟩ := hr3.four
  obtain ⟨d0, d1, d2, d3⟩ := hs3.four
  go_wp2_with fail
  go_ret
  exact ⟨rfl, hB3⟩

set_option maxRecDepth 100000 in
set_option maxHeartbeats 4000000 in
theorem bits10 (k p : Int) (a b : Bool) (k' p' : Int) (a' b' : Bool) (w : World) (hp : -9223372036854775808 ≤ p ∧ p ≤ 9223372036854775807) (hp' : -9223372036854775808 ≤ p' ∧ p' ≤ 9223372036854775807) (ho : packOk k p a b = true) (ho' : packOk k' p' a' b' = false) :
    Calls Try.prog 7 #[.agg #[.int .i64 k, .int .i64 p, .bool a, .bool b], .agg #[.int .i64 k', .int .i64 p', .bool a', .bool b']] w fun e w' => e = .returned (.bool true) ∧ Below w.heap.size w w' := by
  obtain ⟨X, hX⟩ : ∃ X, X = wordOf k p a b := ⟨_, rfl⟩
  have H1 : Hid (∀ w, Calls Try.prog 10 #[.agg #[.int .i64 k, .int .i64 p, .bool a, .bool b]] w fun e w' => e = .returned (.tuple #[.int .u64 X, .int .i64 0]) ∧ Below w.heap.size w w') := by
    intro w
    have := ppack k p a b w hp
    rw [packX_ok ho, packE_ok ho, ← hX] at this
    exact this
  have H2 : Hid (∀ w, Calls Try.prog 10 #[.agg #[.int .i64 k', .int .i64 p', .bool a', .bool b']] w fun e w' => e = .returned (.tuple #[.int .u64 0, .int .i64 1]) ∧ Below w.heap.size w w') := by
    intro w
    have := ppack k' p' a' b' w hp'
    rw [packX_no ho', packE_no ho'] at this
    exact this
  clear hX
  clear ho ho' hp hp'
  obtain ⟨wa, hwa, hra, hBa, -⟩ := boxOn w w (.int .i64 k) (.int .i64 p) (.bool a) (.bool b) (Below.refl _ _)
  have hsa : wa.heap.size = w.heap.size + 1 := by rw [hwa]; simp
  obtain ⟨w0, hw0, hs0, hB0, hk0⟩ := boxOn w wa (.int .i64 k') (.int .i64 p') (.bool a') (.bool b') hBa
  have hr0 := hk0 _ _ _ hra
  rw [hsa] at hs0
  rw [hwa] at hw0
  clear hra hBa hk0 hsa hwa wa
  go_enter Try.func7, Try.ntmps7
  go_wp2_with fail
  rw [← hw0]
  clear hw0
  refine (works_any _).mono ?_
  rintro e w1 ⟨rfl, hb1⟩
  have hr1 := hr0.later hb1
  have hs1 := hs0.later hb1
  have hB1 := bel_trans hB0 hb1
  clear hr0 hB0 hb1 hs0
  obtain ⟨c0, c1, c2, c3⟩ := hr1.four
  go_wp2_with fail
  refine (H1.out _).mono ?_
  rintro e w2 ⟨rfl, hb2⟩
  have hr2 := hr1.later hb2
  have hs2 := hs1.later hb2
  have hB2 := bel_trans hB1 hb2
  clear hr1 hs1 hB1 hb2 c0 c1 c2 c3
  obtain ⟨c0, c1, c2, c3⟩ := hs2.four
  go_wp2_with fail
  refine (H2.out _).mono ?_
  rintro e w3 ⟨rfl, hb3⟩
  have hr3 := hr2.later hb3
  have hs3 := hs2.later hb3
  have hB3 := bel_trans hB2 hb3
  clear hr2 hs2 hB2 hb3 c0 c1 c2 c3
  obtain ⟨c0, c1, c2, c3⟩ := hr3.four
  obtain ⟨d0, d1, d2, d3⟩ := hs3.four
  go_wp2_with fail
  go_ret
  exact ⟨rfl, hB3⟩

set_option maxRecDepth 100000 in
set_option maxHeartbeats 4000000 in
theorem bits01 (k p : Int) (a b : Bool) (k' p' : Int) (a' b' : Bool) (w : World) (hp : -9223372036854775808 ≤ p ∧ p ≤ 9223372036854775807) (hp' : -9223372036854775808 ≤ p' ∧ p' ≤ 9223372036854775807) (ho : packOk k p a b = false) (ho' : packOk k' p' a' b' = true) :
    Calls Try.prog 7 #[.agg #[.int .i64 k, .int .i64 p, .bool a, .bool b], .agg #[.int .i64 k', .int .i64 p', .bool a', .bool b']] w fun e w' => e = .returned (.bool true) ∧ Below w.heap.size w w' := by
  have H1 : Hid (∀ w, Calls Try.prog 10 #[.agg #[.int .i64 k, .int .i64 p, .bool a, .bool b]] w fun e w' => e = .returned (.tuple #[.int .u64 0, .int .i64 1]) ∧ Below w.heap.size w w') := by
    intro w
    have := ppack k p a b w hp
    rw [packX_no ho, packE_no ho] at this
    exact this
  obtain ⟨Y, hY⟩ : ∃ X, X = wordOf k' p' a' b' := ⟨_, rfl⟩
  have H2 : Hid (∀ w, Calls Try.prog 10 #[.agg #[.int .i64 k', .int .i64 p', .bool a', .bool b']] w fun e w' => e = .returned (.tuple #[.int .u64 Y, .int .i64 0]) ∧ Below w.heap.size w w') := by
    intro w
    have := ppack k' p' a' b' w hp'
    rw [packX_ok ho', packE_ok ho', ← hY] at this
    exact this
  clear hY
  clear ho ho' hp hp'
  obtain ⟨wa, hwa, hra, hBa, -⟩ := boxOn w w (.int .i64 k) (.int .i64 p) (.bool a) (.bool b) (Below.refl _ _)
  have hsa : wa.heap.size = w.heap.size + 1 := by rw [hwa]; simp
  obtain ⟨w0, hw0, hs0, hB0, hk0⟩ := boxOn w wa (.int .i64 k') (.int .i64 p') (.bool a') (.bool b') hBa
  have hr0 := hk0 _ _ _ hra
  rw [hsa] at hs0
  rw [hwa] at hw0
  clear hra hBa hk0 hsa hwa wa
  go_enter Try.func7, Try.ntmps7
  go_wp2_with fail
  rw [← hw0]
  clear hw0
  refine (works_any _).mono ?_
  rintro e w1 ⟨rfl, hb1⟩
  have hr1 := hr0.later hb1
  have hs1 := hs0.later hb1
  have hB1 := bel_trans hB0 hb1
  clear hr0 hB0 hb1 hs0
  obtain ⟨c0, c1, c2, c3⟩ := hr1.four
  go_wp2_with fail
  refine (H1.out _).mono ?_
  rintro e w2 ⟨rfl, hb2⟩
  have hr2 := hr1.later hb2
  have hs2 := hs1.later hb2
  have hB2 := bel_trans hB1 hb2
  clear hr1 hs1 hB1 hb2 c0 c1 c2 c3
  obtain ⟨c0, c1, c2, c3⟩ := hs2.four
  go_wp2_with fail
  refine (H2.out _).mono ?_
  rintro e w3 ⟨rfl, hb3⟩
  have hr3 := hr2.later hb3
  have hs3 := hs2.later hb3
  have hB3 := bel_trans hB2 hb3
  clear hr2 hs2 hB2 hb3 c0 c1 c2 c3
  obtain ⟨c0, c1, c2, c3⟩ := hr3.four
  obtain ⟨d0, d1, d2, d3⟩ := hs3.four
  go_wp2_with fail
  go_ret
  exact ⟨rfl, hB3⟩

set_option maxRecDepth 100000 in
set_option maxHeartbeats 4000000 in
theorem bits00 (k p : Int) (a b : Bool) (k' p' : Int) (a' b' : Bool) (w : World) (hp : -9223372036854775808 ≤ p ∧ p ≤ 9223372036854775807) (hp' : -9223372036854775808 ≤ p' ∧ p' ≤ 9223372036854775807) (ho : packOk k p a b = false) (ho' : packOk k' p' a' b' = false) :
    Calls Try.prog 7 #[.agg #[.int .i64 k, .int .i64 p, .bool a, .bool b], .agg #[.int .i64 k', .int .i64 p', .bool a', .bool b']] w fun e w' => e = .returned (.bool true) ∧ Below w.heap.size w w' := by
  have H1 : Hid (∀ w, Calls Try.prog 10 #[.agg #[.int .i64 k, .int .i64 p, .bool a, .bool b]] w fun e w' => e = .returned (.tuple #[.int .u64 0, .int .i64 1]) ∧ Below w.heap.size w w') := by
    intro w
    have := ppack k p a b w hp
    rw [packX_no ho, packE_no ho] at this
    exact this
  have H2 : Hid (∀ w, Calls Try.prog 10 #[.agg #[.int .i64 k', .int .i64 p', .bool a', .bool b']] w fun e w' => e = .returned (.tuple #[.int .u64 0, .int .i64 1]) ∧ Below w.heap.size w w') := by
    intro w
    have := ppack k' p' a' b' w hp'
    rw [packX_no ho', packE_no ho'] at this
    exact this
  clear ho ho' hp hp'
  obtain ⟨wa, hwa, hra, hBa, -⟩ := boxOn w w (.int .i64 k) (.int .i64 p) (.bool a) (.bool b) (Below.refl _ _)
  have hsa : wa.heap.size = w.heap.size + 1 := by rw [hwa]; simp
  obtain ⟨w0, hw0, hs0, hB0, hk0⟩ := boxOn w wa (.int .i64 k') (.int .i64 p') (.bool a') (.bool b') hBa
  have hr0 := hk0 _ _ _ hra
  rw [hsa] at hs0
  rw [hwa] at hw0
  clear hra hBa hk0 hsa hwa wa
  go_enter Try.func7, Try.ntmps7
  go_wp2_with fail
  rw [← hw0]
  clear hw0
  refine (works_any _).mono ?_
  rintro e w1 ⟨rfl, hb1⟩
  have hr1 := hr0.later hb1
  have hs1 := hs0.later hb1
  have hB1 := bel_trans hB0 hb1
  clear hr0 hB0 hb1 hs0
  obtain ⟨c0, c1, c2, c3⟩ := hr1.four
  go_wp2_with fail
  refine (H1.out _).mono ?_
  rintro e w2 ⟨rfl, hb2⟩
  have hr2 := hr1.later hb2
  have hs2 := hs1.later hb2
  have hB2 := bel_trans hB1 hb2
  clear hr1 hs1 hB1 hb2 c0 c1 c2 c3
  obtain ⟨c0, c1, c2, c3⟩ := hs2.four
  go_wp2_with fail
  refine (H2.out _).mono ?_
  rintro e w3 ⟨rfl, hb3⟩
  have hr3 := hr2.later hb3
  have hs3 := hs2.later hb3
  have hB3 := bel_trans hB2 hb3
  clear hr2 hs2 hB2 hb3 c0 c1 c2 c3
  obtain ⟨c0, c1, c2, c3⟩ := hr3.four
  obtain ⟨d0, d1, d2, d3⟩ := hs3.four
  go_wp2_with fail
  go_ret
  exact ⟨rfl, hB3⟩

theorem bits_walk (k p : Int) (a b : Bool) (k' p' : Int) (a' b' : Bool) (w : World) (hp : -9223372036854775808 ≤ p ∧ p ≤ 9223372036854775807) (hp' : -9223372036854775808 ≤ p' ∧ p' ≤ 9223372036854775807) :
    Calls Try.prog 7 #[.agg #[.int .i64 k, .int .i64 p, .bool a, .bool b], .agg #[.int .i64 k', .int .i64 p', .bool a', .bool b']] w fun e w' => e = .returned (.bool true) ∧ Below w.heap.size w w' := by
  cases ho : packOk k p a b <;> cases ho' : packOk k' p' a' b'
  · exact bits00 k p a b k' p' a' b' w hp hp' ho ho'
  · exact bits01 k p a b k' p' a' b' w hp hp' ho ho'
  · exact bits10 k p a b k' p' a' b' w hp hp' ho ho'
  · exact bits11 k p a b k' p' a' b' w hp hp' ho ho'
end Go.Proofs.Ytlpbpibjofepjaa
