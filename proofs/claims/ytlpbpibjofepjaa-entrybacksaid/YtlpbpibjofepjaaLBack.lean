/-
  The law EntryBack, walked: for every input it answers true.
-/
import Derived.Test.YtlpbpibjofepjaaLPacks
namespace Go.Proofs.Ytlpbpibjofepjaa
open Go.RowKit

set_option maxRecDepth 100000 in
set_option maxHeartbeats 4000000 in
theorem back11 (k p : Int) (a b : Bool) (x : Nat) (w : World) (hp : -9223372036854775808 ≤ p ∧ p ≤ 9223372036854775807) (ho : packOk k p a b = true) (hi : isEnt x = true) :
    Calls Try.prog 5 #[.agg #[.int .i64 k, .int .i64 p, .bool a, .bool b], .int .u64 x] w fun e w' => e = .returned (.bool true) ∧ Below w.heap.size w w' := by
  have hgt := guard24
  obtain ⟨X, hX⟩ : ∃ X, X = wordOf k p a b := ⟨_, rfl⟩
  have H1 : Hid (∀ w, Calls Try.prog 10 #[.agg #[.int .i64 k, .int .i64 p, .bool a, .bool b]] w fun e w' => e = .returned (.tuple #[.int .u64 X, .int .i64 0]) ∧ Below w.heap.size w w') := by
    intro w
    have := ppack k p a b w hp
    rw [packX_ok ho, packE_ok ho, ← hX] at this
    exact this
  have H2 : Hid (∀ w, Calls Try.prog 12 #[.int .u64 X] w fun e w' => e = .returned (.tuple #[.agg #[.int .i64 k, .int .i64 p, .bool a, .bool b], .int .i64 0]) ∧ Below w.heap.size w w') := by
    intro w
    obtain ⟨-, y1, y2, y3, y4, y5, -⟩ := word_ent ho
    have := punpack X w
    rw [hX, y1, y2, y3, y4, y5, ← hX] at this
    exact this
  have hq1 := fun w => eq24 k p a b k p a b w
  rw [eqE_same] at hq1
  clear hX
  obtain ⟨K, P, A, B, hoo, hxe⟩ := ent_word hi
  have hpb := packOk_yes hoo
  have H3 : Hid (∀ w, Calls Try.prog 12 #[.int .u64 x] w fun e w' => e = .returned (.tuple #[.agg #[.int .i64 K, .int .i64 P, .bool A, .bool B], .int .i64 0]) ∧ Below w.heap.size w w') := by
    intro w
    obtain ⟨-, y1, y2, y3, y4, y5, -⟩ := word_ent hoo
    have := punpack x w
    rw [hxe, y1, y2, y3, y4, y5, ← hxe] at this
    exact this
  have H4 : Hid (∀ w, Calls Try.prog 10 #[.agg #[.int .i64 K, .int .i64 P, .bool A, .bool B]] w fun e w' => e = .returned (.tuple #[.int .u64 x, .int .i64 0]) ∧ Below w.heap.size w w') := by
    intro w
    have := ppack K P A B w (by omega)
    rw [packX_ok hoo, packE_ok hoo, ← hxe] at this
    exact this
  clear hoo hxe hpb
  have qx : ((x : Int) == (x : Int)) = true := by simp
  clear ho hi hp
  obtain ⟨w0, hw0, hr0, hB0, -⟩ := boxOn w w (.int .i64 k) (.int .i64 p) (.bool a) (.bool b) (Below.refl _ _)
  go_enter Try.func5, Try.ntmps5
  go_wp2_with fail
  rw [← hw0]
  clear hw0
  refine (works_any _).mono ?_
  rintro e w1 ⟨rfl, hb1⟩
  have hr1 := hr0.later hb1
  have hB1 := bel_trans hB0 hb1
  clear hr0 hB0 hb1
  obtain ⟨c0, c1, c2, c3⟩ := hr1.four
  go_wp2_with fail
  refine (H1.out _).mono ?_
  rintro e w2 ⟨rfl, hb2⟩
  have hr2 := hr1.later hb2
  have hB2 := bel_trans hB1 hb2
  clear hr1 hB1 hb2 c0 c1 c2 c3
  go_wp2_with fail
  refine (H2.out _).mono ?_
  rintro e w3 ⟨rfl, hb3⟩
  have hr3 := (hr2.later hb3).alloc (.cells #[.int .i64 k, .int .i64 p, .bool a, .bool b] 24)
  have hB3 := bel_trans (bel_trans hB2 hb3) (below_alloc w3 (.cells #[.int .i64 k, .int .i64 p, .bool a, .bool b] 24))
  clear hr2 hB2 hb3
  obtain ⟨c0, c1, c2, c3⟩ := hr3.four
  go_wp2_with fail
  clear hr3 c0 c1 c2 c3
  refine (H3.out _).mono ?_
  rintro e w4 ⟨rfl, hb4⟩
  have hB4 := bel_trans (bel_trans hB3 hb4) (below_alloc w4 (.cells #[.int .i64 K, .int .i64 P, .bool A, .bool B] 24))
  clear hB3 hb4
  go_wp2_with fail
  refine (H4.out _).mono ?_
  rintro e w5 ⟨rfl, hb5⟩
  have hB5 := bel_trans hB4 hb5
  go_wp2_with fail
  go_ret
  exact ⟨rfl, hB5⟩

set_option maxRecDepth 100000 in
set_option maxHeartbeats 4000000 in
theorem back10 (k p : Int) (a b : Bool) (x : Nat) (w : World) (hp : -9223372036854775808 ≤ p ∧ p ≤ 9223372036854775807) (hx : x < 18446744073709551616) (ho : packOk k p a b = true) (hi : isEnt x = false) :
    Calls Try.prog 5 #[.agg #[.int .i64 k, .int .i64 p, .bool a, .bool b], .int .u64 x] w fun e w' => e = .returned (.bool true) ∧ Below w.heap.size w w' := by
  have hgt := guard24
  obtain ⟨X, hX⟩ : ∃ X, X = wordOf k p a b := ⟨_, rfl⟩
  have H1 : Hid (∀ w, Calls Try.prog 10 #[.agg #[.int .i64 k, .int .i64 p, .bool a, .bool b]] w fun e w' => e = .returned (.tuple #[.int .u64 X, .int .i64 0]) ∧ Below w.heap.size w w') := by
    intro w
    have := ppack k p a b w hp
    rw [packX_ok ho, packE_ok ho, ← hX] at this
    exact this
  have H2 : Hid (∀ w, Calls Try.prog 12 #[.int .u64 X] w fun e w' => e = .returned (.tuple #[.agg #[.int .i64 k, .int .i64 p, .bool a, .bool b], .int .i64 0]) ∧ Below w.heap.size w w') := by
    intro w
    obtain ⟨-, y1, y2, y3, y4, y5, -⟩ := word_ent ho
    have := punpack X w
    rw [hX, y1, y2, y3, y4, y5, ← hX] at this
    exact this
  have hq1 := fun w => eq24 k p a b k p a b w
  rw [eqE_same] at hq1
  clear hX
  have H3 : Hid (∀ w, Calls Try.prog 12 #[.int .u64 x] w fun e w' => e = .returned (.tuple #[.agg #[.int .i64 0, .int .i64 0, .bool false, .bool false], .int .i64 1]) ∧ Below w.heap.size w w') := by
    intro w
    obtain ⟨y1, y2, y3, y4, y5⟩ := none_told hi
    have := punpack x w
    rw [y1, y2, y3, y4, y5] at this
    exact this
  have H4 : Hid (∀ w, Calls Try.prog 16 #[.int .u64 x] w fun e w' => e = .returned (.int .u64 x) ∧ Below w.heap.size w w') := by
    intro w
    have := ptouch x w hx
    rw [turn_none 27 true (Or.inl hi)] at this
    exact this
  have hq2 := fun w => eq24 0 0 false false 0 0 false false w
  rw [eqE_same] at hq2
  clear hx
  have qx : ((x : Int) == (x : Int)) = true := by simp
  clear ho hi hp
  obtain ⟨w0, hw0, hr0, hB0, -⟩ := boxOn w w (.int .i64 k) (.int .i64 p) (.bool a) (.bool b) (Below.refl _ _)
  go_enter Try.func5, Try.ntmps5
  go_wp2_with fail
  rw [← hw0]
  clear hw0
  refine (works_any _).mono ?_
  rintro e w1 ⟨rfl, hb1⟩
  have hr1 := hr0.later hb1
  have hB1 := bel_trans hB0 hb1
  clear hr0 hB0 hb1
  obtain ⟨c0, c1, c2, c3⟩ := hr1.four
  go_wp2_with fail
  refine (H1.out _).mono ?_
  rintro e w2 ⟨rfl, hb2⟩
  have hr2 := hr1.later hb2
  have hB2 := bel_trans hB1 hb2
  clear hr1 hB1 hb2 c0 c1 c2 c3
  go_wp2_with fail
  refine (H2.out _).mono ?_
  rintro e w3 ⟨rfl, hb3⟩
  have hr3 := (hr2.later hb3).alloc (.cells #[.int .i64 k, .int .i64 p, .bool a, .bool b] 24)
  have hB3 := bel_trans (bel_trans hB2 hb3) (below_alloc w3 (.cells #[.int .i64 k, .int .i64 p, .bool a, .bool b] 24))
  clear hr2 hB2 hb3
  obtain ⟨c0, c1, c2, c3⟩ := hr3.four
  go_wp2_with fail
  clear hr3 c0 c1 c2 c3
  refine (H3.out _).mono ?_
  rintro e w4 ⟨rfl, hb4⟩
  have hB4 := bel_trans (bel_trans hB3 hb4) (below_alloc w4 (.cells #[.int .i64 0, .int .i64 0, .bool false, .bool false] 24))
  clear hB3 hb4
  go_wp2_with fail
  refine (H4.out _).mono ?_
  rintro e w5 ⟨rfl, hb5⟩
  have hB5 := bel_trans hB4 hb5
  go_wp2_with fail
  go_ret
  exact ⟨rfl, hB5⟩

set_option maxRecDepth 100000 in
set_option maxHeartbeats 4000000 in
theorem back01 (k p : Int) (a b : Bool) (x : Nat) (w : World) (hp : -9223372036854775808 ≤ p ∧ p ≤ 9223372036854775807) (ho : packOk k p a b = false) (hi : isEnt x = true) :
    Calls Try.prog 5 #[.agg #[.int .i64 k, .int .i64 p, .bool a, .bool b], .int .u64 x] w fun e w' => e = .returned (.bool true) ∧ Below w.heap.size w w' := by
  have hgt := guard24
  have H1 : Hid (∀ w, Calls Try.prog 10 #[.agg #[.int .i64 k, .int .i64 p, .bool a, .bool b]] w fun e w' => e = .returned (.tuple #[.int .u64 0, .int .i64 1]) ∧ Below w.heap.size w w') := by
    intro w
    have := ppack k p a b w hp
    rw [packX_no ho, packE_no ho] at this
    exact this
  obtain ⟨K, P, A, B, hoo, hxe⟩ := ent_word hi
  have hpb := packOk_yes hoo
  have H3 : Hid (∀ w, Calls Try.prog 12 #[.int .u64 x] w fun e w' => e = .returned (.tuple #[.agg #[.int .i64 K, .int .i64 P, .bool A, .bool B], .int .i64 0]) ∧ Below w.heap.size w w') := by
    intro w
    obtain ⟨-, y1, y2, y3, y4, y5, -⟩ := word_ent hoo
    have := punpack x w
    rw [hxe, y1, y2, y3, y4, y5, ← hxe] at this
    exact this
  have H4 : Hid (∀ w, Calls Try.prog 10 #[.agg #[.int .i64 K, .int .i64 P, .bool A, .bool B]] w fun e w' => e = .returned (.tuple #[.int .u64 x, .int .i64 0]) ∧ Below w.heap.size w w') := by
    intro w
    have := ppack K P A B w (by omega)
    rw [packX_ok hoo, packE_ok hoo, ← hxe] at this
    exact this
  clear hoo hxe hpb
  have qx : ((x : Int) == (x : Int)) = true := by simp
  clear ho hi hp
  obtain ⟨w0, hw0, hr0, hB0, -⟩ := boxOn w w (.int .i64 k) (.int .i64 p) (.bool a) (.bool b) (Below.refl _ _)
  go_enter Try.func5, Try.ntmps5
  go_wp2_with fail
  rw [← hw0]
  clear hw0
  refine (works_any _).mono ?_
  rintro e w1 ⟨rfl, hb1⟩
  have hr1 := hr0.later hb1
  have hB1 := bel_trans hB0 hb1
  clear hr0 hB0 hb1
  obtain ⟨c0, c1, c2, c3⟩ := hr1.four
  go_wp2_with fail
  refine (H1.out _).mono ?_
  rintro e w2 ⟨rfl, hb2⟩
  have hr2 := hr1.later hb2
  have hB2 := bel_trans hB1 hb2
  clear hr1 hB1 hb2 c0 c1 c2 c3
  go_wp2_with fail
  have hB3 := hB2
  clear hB2 hr2
  refine (H3.out _).mono ?_
  rintro e w4 ⟨rfl, hb4⟩
  have hB4 := bel_trans (bel_trans hB3 hb4) (below_alloc w4 (.cells #[.int .i64 K, .int .i64 P, .bool A, .bool B] 24))
  clear hB3 hb4
  go_wp2_with fail
  refine (H4.out _).mono ?_
  rintro e w5 ⟨rfl, hb5⟩
  have hB5 := bel_trans hB4 hb5
  go_wp2_with fail
  go_ret
  exact ⟨rfl, hB5⟩

set_option maxRecDepth 100000 in
set_option maxHeartbeats 4000000 in
theorem back00 (k p : Int) (a b : Bool) (x : Nat) (w : World) (hp : -9223372036854775808 ≤ p ∧ p ≤ 9223372036854775807) (hx : x < 18446744073709551616) (ho : packOk k p a b = false) (hi : isEnt x = false) :
    Calls Try.prog 5 #[.agg #[.int .i64 k, .int .i64 p, .bool a, .bool b], .int .u64 x] w fun e w' => e = .returned (.bool true) ∧ Below w.heap.size w w' := by
  have hgt := guard24
  have H1 : Hid (∀ w, Calls Try.prog 10 #[.agg #[.int .i64 k, .int .i64 p, .bool a, .bool b]] w fun e w' => e = .returned (.tuple #[.int .u64 0, .int .i64 1]) ∧ Below w.heap.size w w') := by
    intro w
    have := ppack k p a b w hp
    rw [packX_no ho, packE_no ho] at this
    exact this
  have H3 : Hid (∀ w, Calls Try.prog 12 #[.int .u64 x] w fun e w' => e = .returned (.tuple #[.agg #[.int .i64 0, .int .i64 0, .bool false, .bool false], .int .i64 1]) ∧ Below w.heap.size w w') := by
    intro w
    obtain ⟨y1, y2, y3, y4, y5⟩ := none_told hi
    have := punpack x w
    rw [y1, y2, y3, y4, y5] at this
    exact this
  have H4 : Hid (∀ w, Calls Try.prog 16 #[.int .u64 x] w fun e w' => e = .returned (.int .u64 x) ∧ Below w.heap.size w w') := by
    intro w
    have := ptouch x w hx
    rw [turn_none 27 true (Or.inl hi)] at this
    exact this
  have hq2 := fun w => eq24 0 0 false false 0 0 false false w
  rw [eqE_same] at hq2
  clear hx
  have qx : ((x : Int) == (x : Int)) = true := by simp
  clear ho hi hp
  obtain ⟨w0, hw0, hr0, hB0, -⟩ := boxOn w w (.int .i64 k) (.int .i64 p) (.bool a) (.bool b) (Below.refl _ _)
  go_enter Try.func5, Try.ntmps5
  go_wp2_with fail
  rw [← hw0]
  clear hw0
  refine (works_any _).mono ?_
  rintro e w1 ⟨rfl, hb1⟩
  have hr1 := hr0.later hb1
  have hB1 := bel_trans hB0 hb1
  clear hr0 hB0 hb1
  obtain ⟨c0, c1, c2, c3⟩ := hr1.four
  go_wp2_with fail
  refine (H1.out _).mono ?_
  rintro e w2 ⟨rfl, hb2⟩
  have hr2 := hr1.later hb2
  have hB2 := bel_trans hB1 hb2
  clear hr1 hB1 hb2 c0 c1 c2 c3
  go_wp2_with fail
  have hB3 := hB2
  clear hB2 hr2
  refine (H3.out _).mono ?_
  rintro e w4 ⟨rfl, hb4⟩
  have hB4 := bel_trans (bel_trans hB3 hb4) (below_alloc w4 (.cells #[.int .i64 0, .int .i64 0, .bool false, .bool false] 24))
  clear hB3 hb4
  go_wp2_with fail
  refine (H4.out _).mono ?_
  rintro e w5 ⟨rfl, hb5⟩
  have hB5 := bel_trans hB4 hb5
  go_wp2_with fail
  go_ret
  exact ⟨rfl, hB5⟩

theorem back_walk (k p : Int) (a b : Bool) (x : Nat) (w : World) (hp : -9223372036854775808 ≤ p ∧ p ≤ 9223372036854775807) (hx : x < 18446744073709551616) :
    Calls Try.prog 5 #[.agg #[.int .i64 k, .int .i64 p, .bool a, .bool b], .int .u64 x] w fun e w' => e = .returned (.bool true) ∧ Below w.heap.size w w' := by
  cases ho : packOk k p a b <;> cases hi : isEnt x
  · exact back00 k p a b x w hp hx ho hi
  · exact back01 k p a b x w hp ho hi
  · exact back10 k p a b x w hp hx ho hi
  · exact back11 k p a b x w hp ho hi
end Go.Proofs.Ytlpbpibjofepjaa
