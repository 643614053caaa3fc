/-
  The law EntryRest, walked: for every input it answers true.
-/
import Derived.Test.YtlpbpibjofepjaaR3
namespace Go.Proofs.Ytlpbpibjofepjaa
open Go.RowKit

set_option maxRecDepth 100000 in
set_option maxHeartbeats 4000000 in
theorem rest_none (x : Nat) (F : Int) (w : World) (H1 : Hid (∀ w, Calls Try.prog 14 #[.int .u64 x] w fun e w' => e = .returned (.tuple #[.int .u64 x, .bool false]) ∧ Below w.heap.size w w'))
    (H3 : Hid (∀ w, Calls Try.prog 12 #[.int .u64 x] w fun e w' => e = .returned (.tuple #[.agg #[.int .i64 0, .int .i64 0, .bool false, .bool false], .int .i64 F]) ∧ Below w.heap.size w w')) (hF : (F != 0) = true ∨ (F != 0) = false) :
    Calls Try.prog 8 #[.int .u64 x] w fun e w' => e = .returned (.bool true) ∧ Below w.heap.size w w' := by
  have qx : ((x : Int) == (x : Int)) = true := by simp
  have H2 := H1
  rcases hF with hF | hF
  · go_enter Try.func8, Try.ntmps8
    go_wp2_with fail
    refine (works_any _).mono ?_
    rintro e w1 ⟨rfl, hB1⟩
    go_wp2_with fail
    refine (H1.out _).mono ?_
    rintro e w2 ⟨rfl, hb2⟩
    have hB2 := bel_trans hB1 hb2
    clear hB1 hb2
    go_wp2_with fail
    refine (H2.out _).mono ?_
    rintro e w3 ⟨rfl, hb3⟩
    have hB3 := bel_trans hB2 hb3
    clear hB2 hb3
    go_wp2_with fail
    refine (H3.out _).mono ?_
    rintro e w4 ⟨rfl, hb4⟩
    have hB4 := bel_trans hB3 hb4
    clear hB3 hb4
    go_wp2_with fail
    go_ret
    exact ⟨rfl, bel_trans hB4 (below_alloc _ _)⟩
  · go_enter Try.func8, Try.ntmps8
    go_wp2_with fail
    refine (works_any _).mono ?_
    rintro e w1 ⟨rfl, hB1⟩
    go_wp2_with fail
    refine (H1.out _).mono ?_
    rintro e w2 ⟨rfl, hb2⟩
    have hB2 := bel_trans hB1 hb2
    clear hB1 hb2
    go_wp2_with fail
    refine (H2.out _).mono ?_
    rintro e w3 ⟨rfl, hb3⟩
    have hB3 := bel_trans hB2 hb3
    clear hB2 hb3
    go_wp2_with fail
    refine (H3.out _).mono ?_
    rintro e w4 ⟨rfl, hb4⟩
    have hB4 := bel_trans hB3 hb4
    clear hB3 hb4
    go_wp2_with fail
    go_ret
    exact ⟨rfl, bel_trans hB4 (below_alloc _ _)⟩

set_option maxRecDepth 100000 in
set_option maxHeartbeats 4000000 in
theorem rest_word (k p : Int) (a b : Bool) (w : World) (ho : packOk k p a b = true) (hk : k ≠ 0) :
    Calls Try.prog 8 #[.int .u64 (wordOf k p a b)] w fun e w' => e = .returned (.bool true) ∧ Below w.heap.size w w' := by
  obtain ⟨-, x1, x2, x3, x4, x5, x6⟩ := word_ent ho
  obtain ⟨-, t0, -, o0⟩ := turn_word ho hk false
  obtain ⟨-, t1, -, -⟩ := turn_word ho hk true
  obtain ⟨-, y1, y2, y3, y4, y5, y6⟩ := word_ent o0
  obtain ⟨-, s0, -, -⟩ := turn_word o0 hk false
  obtain ⟨-, s1, -, -⟩ := turn_word o0 hk true
  have hk0 : (k == 0) = false := by simpa using hk
  obtain ⟨X, hX⟩ : ∃ X, X = wordOf k p a b := ⟨_, rfl⟩
  obtain ⟨Y, hY⟩ : ∃ X, X = wordOf k p a false := ⟨_, rfl⟩
  obtain ⟨Z, hZ⟩ : ∃ X, X = wordOf k p a true := ⟨_, rfl⟩
  rw [← hX] at x1 x2 x3 x4 x5 x6 t0 t1
  rw [← hY] at y1 y2 y3 y4 y5 y6 t0 s0 s1
  rw [← hZ] at t1 s1
  rw [← hX]
  clear hX hY hZ ho o0 hk
  have H1 : Hid (∀ w, Calls Try.prog 14 #[.int .u64 X] w fun e w' => e = .returned (.tuple #[.int .u64 Y, .bool b]) ∧ Below w.heap.size w w') := by
    intro w
    have := prest X w (by omega)
    rw [t0, x4] at this
    exact this
  have H2 : Hid (∀ w, Calls Try.prog 14 #[.int .u64 Y] w fun e w' => e = .returned (.tuple #[.int .u64 Y, .bool false]) ∧ Below w.heap.size w w') := by
    intro w
    have := prest Y w (by omega)
    rw [s0, y4] at this
    exact this
  have H3 : Hid (∀ w, Calls Try.prog 12 #[.int .u64 X] w fun e w' => e = .returned (.tuple #[.agg #[.int .i64 k, .int .i64 p, .bool a, .bool b], .int .i64 0]) ∧ Below w.heap.size w w') := by
    intro w
    have := punpack X w
    rw [x1, x2, x3, x4, x5] at this
    exact this
  have H4 : Hid (∀ w, Calls Try.prog 12 #[.int .u64 Y] w fun e w' => e = .returned (.tuple #[.agg #[.int .i64 k, .int .i64 p, .bool a, .bool false], .int .i64 0]) ∧ Below w.heap.size w w') := by
    intro w
    have := punpack Y w
    rw [y1, y2, y3, y4, y5] at this
    exact this
  have H5 : Hid (∀ w, Calls Try.prog 16 #[.int .u64 Y] w fun e w' => e = .returned (.int .u64 Z) ∧ Below w.heap.size w w') := by
    intro w
    have := ptouch Y w (by omega)
    rw [s1] at this
    exact this
  have H6 : Hid (∀ w, Calls Try.prog 16 #[.int .u64 X] w fun e w' => e = .returned (.int .u64 Z) ∧ Below w.heap.size w w') := by
    intro w
    have := ptouch X w (by omega)
    rw [t1] at this
    exact this
  have q1 : ((Y : Int) == (Y : Int)) = true := by simp
  have q2 : ((Z : Int) == (Z : Int)) = true := by simp
  have q3 : (b == b) = true := by simp
  clear x1 x2 x3 x4 x5 x6 y1 y2 y3 y4 y5 y6 t0 t1 s0 s1
  go_enter Try.func8, Try.ntmps8
  go_wp2_with fail
  refine (works_any _).mono ?_
  rintro e w1 ⟨rfl, hB1⟩
  go_wp2_with fail
  refine (H1.out _).mono ?_
  rintro e w2 ⟨rfl, hb2⟩
  have hB2 := bel_trans hB1 hb2
  clear hB1 hb2
  go_wp2_with fail
  refine (H2.out _).mono ?_
  rintro e w3 ⟨rfl, hb3⟩
  have hB3 := bel_trans hB2 hb3
  clear hB2 hb3
  go_wp2_with fail
  refine (H3.out _).mono ?_
  rintro e w4 ⟨rfl, hb4⟩
  have hB4 := bel_trans hB3 hb4
  clear hB3 hb4
  obtain ⟨w5, hw5, hr5, hB5, -⟩ := boxOn w w4 (.int .i64 k) (.int .i64 p) (.bool a) (.bool b) hB4
  go_wp2_with fail
  rw [← hw5]
  clear hw5 hB4
  refine (H4.out _).mono ?_
  rintro e w6 ⟨rfl, hb6⟩
  have hr6 := (hr5.later hb6).alloc (.cells #[.int .i64 k, .int .i64 p, .bool a, .bool false] 24)
  have hB6 := bel_trans (bel_trans hB5 hb6) (below_alloc w6 (.cells #[.int .i64 k, .int .i64 p, .bool a, .bool false] 24))
  clear hr5 hB5 hb6
  obtain ⟨c0, c1, c2, c3⟩ := hr6.four
  go_wp2_with fail
  refine (H5.out _).mono ?_
  rintro e w7 ⟨rfl, hb7⟩
  have hB7 := bel_trans hB6 hb7
  clear c0 c1 c2 c3 hr6 hB6 hb7
  go_wp2_with fail
  refine (H6.out _).mono ?_
  rintro e w8 ⟨rfl, hb8⟩
  have hB8 := bel_trans hB7 hb8
  go_wp2_with fail
  go_ret
  exact ⟨rfl, hB8⟩

theorem rest_walk (x : Nat) (w : World) (hx : x < 18446744073709551616) :
    Calls Try.prog 8 #[.int .u64 x] w fun e w' => e = .returned (.bool true) ∧ Below w.heap.size w w' := by
  rcases three x with h | h | ⟨k, p, a, b, h1, hk, rfl⟩
  · obtain ⟨y1, y2, y3, y4, y5⟩ := none_told h
    refine rest_none x 1 w (fun w => ?_) (fun w => ?_) (by decide)
    · have := prest x w hx
      rw [turn_none 27 false (Or.inl h), y4] at this
      exact this
    · have := punpack x w
      rw [y1, y2, y3, y4, y5] at this
      exact this
  · subst h
    obtain ⟨y1, y2, y3, y4, y5⟩ := zero_told
    refine rest_none 0 0 w (fun w => ?_) (fun w => ?_) (by decide)
    · have := prest 0 w hx
      rw [turn_none 27 false (Or.inr rfl), y4] at this
      exact this
    · have := punpack 0 w
      rw [y1, y2, y3, y4, y5] at this
      exact this
  · exact rest_word k p a b w h1 hk
end Go.Proofs.Ytlpbpibjofepjaa
