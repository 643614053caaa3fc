/-
  The law EntryOne, walked: for every input it answers true.
-/
import Derived.Test.YtlpbpibjofepjaaLPacks
import Derived.Deep.CutBlock
import Derived.Deep.DeepCutAuto
namespace Go.Proofs.Ytlpbpibjofepjaa
open Go.RowKit

set_option maxRecDepth 100000 in
set_option maxHeartbeats 4000000 in
theorem one_no (k p : Int) (a b on : Bool) (w : World) (hp : -9223372036854775808 ≤ p ∧ p ≤ 9223372036854775807) (ho : packOk k p a b = false) :
    Calls Try.prog 6 #[.agg #[.int .i64 k, .int .i64 p, .bool a, .bool b], .bool on] w fun e w' => e = .returned (.bool true) ∧ Below w.heap.size w w' := by
  have H1 : Hid (∀ w, Calls Try.prog 10 #[.agg #[.int .i64 k, .int .i64 p, .bool a, .bool b]] w fun e w' => e = .returned (.tuple #[.int .u64 0, .int .i64 1]) ∧ Below w.heap.size w w') := by
    intro w
    have := ppack k p a b w hp
    rw [packX_no ho, packE_no ho] at this
    exact this
  clear ho hp
  obtain ⟨w0, hw0, hr0, hB0, -⟩ := boxOn w w (.int .i64 k) (.int .i64 p) (.bool a) (.bool b) (Below.refl _ _)
  go_enter Try.func6, Try.ntmps6
  go_wp2_with fail
  rw [← hw0]
  clear hw0
  refine (works_any _).mono ?_
  rintro e w1 ⟨rfl, hb1⟩
  have hr1 := hr0.later hb1
  have hB1 := bel_trans hB0 hb1
  clear hr0 hB0 hb1
  obtain ⟨c0, c1, c2, c3⟩ := hr1.four
  go_wp2_with fail
  refine (H1.out _).mono ?_
  rintro e w2 ⟨rfl, hb2⟩
  have hB2 := bel_trans hB1 hb2
  go_wp2_with fail
  go_ret
  exact ⟨rfl, hB2⟩

set_option maxRecDepth 100000 in
set_option maxHeartbeats 4000000 in
theorem one_zero (on : Bool) (w : World) :
    Calls Try.prog 6 #[.agg #[.int .i64 0, .int .i64 0, .bool false, .bool false], .bool on] w fun e w' => e = .returned (.bool true) ∧ Below w.heap.size w w' := by
  have H1 : Hid (∀ w, Calls Try.prog 10 #[.agg #[.int .i64 0, .int .i64 0, .bool false, .bool false]] w fun e w' => e = .returned (.tuple #[.int .u64 0, .int .i64 0]) ∧ Below w.heap.size w w') := by
    intro w
    have := ppack 0 0 false false w (by decide)
    rw [packX_ok packOk_zero, packE_ok packOk_zero] at this
    exact this
  have H2 : Hid (∀ w, Calls Try.prog 16 #[.int .u64 0] w fun e w' => e = .returned (.int .u64 0) ∧ Below w.heap.size w w') := by
    intro w
    have := ptouch 0 w (by decide)
    rw [turn_none 27 true (Or.inr rfl)] at this
    exact this
  obtain ⟨w0, hw0, hr0, hB0, -⟩ := boxOn w w (.int .i64 0) (.int .i64 0) (.bool false) (.bool false) (Below.refl _ _)
  go_enter Try.func6, Try.ntmps6
  go_wp2_with fail
  rw [← hw0]
  clear hw0
  refine (works_any _).mono ?_
  rintro e w1 ⟨rfl, hb1⟩
  have hr1 := hr0.later hb1
  have hB1 := bel_trans hB0 hb1
  clear hr0 hB0 hb1
  obtain ⟨c0, c1, c2, c3⟩ := hr1.four
  go_wp2_with fail
  refine (H1.out _).mono ?_
  rintro e w2 ⟨rfl, hb2⟩
  have hr2 := hr1.later hb2
  have hB2 := bel_trans hB1 hb2
  clear c0 c1 c2 c3 hr1 hB1 hb2
  obtain ⟨c0, c1, c2, c3⟩ := hr2.four
  go_wp2_with fail
  refine (H2.out _).mono ?_
  rintro e w3 ⟨rfl, hb3⟩
  have hB3 := bel_trans hB2 hb3
  go_wp2_with fail
  go_ret
  exact ⟨rfl, hB3⟩

set_option maxRecDepth 100000 in
set_option maxHeartbeats 8000000 in
theorem one_word (k p : Int) (a b on : Bool) (w : World) (hp : -9223372036854775808 ≤ p ∧ p ≤ 9223372036854775807) (ho : packOk k p a b = true) (hk : k ≠ 0) :
    Calls Try.prog 6 #[.agg #[.int .i64 k, .int .i64 p, .bool a, .bool b], .bool on] w fun e w' => e = .returned (.bool true) ∧ Below w.heap.size w w' := by
  obtain ⟨-, x1, x2, x3, x4, x5, x6⟩ := word_ent ho
  obtain ⟨-, tT, -, oT⟩ := turn_word ho hk true
  obtain ⟨-, tR, -, oR⟩ := turn_word ho hk false
  obtain ⟨tW, -, oW, -⟩ := turn_word ho hk on
  obtain ⟨-, y1, y2, y3, y4, y5, y6⟩ := word_ent oT
  obtain ⟨-, z1, z2, z3, z4, z5, z6⟩ := word_ent oW
  obtain ⟨-, r1, r2, r3, r4, r5, r6⟩ := word_ent oR
  obtain ⟨-, tWT, -, -⟩ := turn_word oW hk true
  obtain ⟨tTW, -, -, -⟩ := turn_word oT hk on
  obtain ⟨-, tTT, -, -⟩ := turn_word oT hk true
  have hk0 : (k == 0) = false := by simpa using hk
  have hXX : Hid (packX k p a b = wordOf k p a b ∧ packE k p a b = 0) := ⟨packX_ok ho, packE_ok ho⟩
  obtain ⟨X, hX⟩ : ∃ X, X = wordOf k p a b := ⟨_, rfl⟩
  obtain ⟨T, hT⟩ : ∃ X, X = wordOf k p a true := ⟨_, rfl⟩
  obtain ⟨R, hR⟩ : ∃ X, X = wordOf k p a false := ⟨_, rfl⟩
  obtain ⟨W, hW⟩ : ∃ X, X = wordOf k p on b := ⟨_, rfl⟩
  obtain ⟨V, hV⟩ : ∃ X, X = wordOf k p on true := ⟨_, rfl⟩
  rw [← hX] at x1 x2 x3 x4 x5 x6 tT tR tW hXX
  rw [← hT] at y1 y2 y3 y4 y5 y6 tT tTW tTT
  rw [← hW] at z1 z2 z3 z4 z5 z6 tW tWT
  rw [← hR] at r1 r2 r3 r4 r5 r6 tR
  rw [← hV] at tWT tTW
  clear hX hT hR hW hV oT oR oW ho hk
  have H1 : Hid (∀ w, Calls Try.prog 10 #[.agg #[.int .i64 k, .int .i64 p, .bool a, .bool b]] w fun e w' => e = .returned (.tuple #[.int .u64 X, .int .i64 0]) ∧ Below w.heap.size w w') := by
    intro w
    have := ppack k p a b w hp
    rw [hXX.out.1, hXX.out.2] at this
    exact this
  have HT : Hid (∀ w, Calls Try.prog 16 #[.int .u64 X] w fun e w' => e = .returned (.int .u64 T) ∧ Below w.heap.size w w') := by
    intro w
    have := ptouch X w (by omega)
    rw [tT] at this
    exact this
  have HUT : Hid (∀ w, Calls Try.prog 12 #[.int .u64 T] w fun e w' => e = .returned (.tuple #[.agg #[.int .i64 k, .int .i64 p, .bool a, .bool true], .int .i64 0]) ∧ Below w.heap.size w w') := by
    intro w
    have := punpack T w
    rw [y1, y2, y3, y4, y5] at this
    exact this
  have HW : Hid (∀ w, Calls Try.prog 18 #[.int .u64 X, .bool on] w fun e w' => e = .returned (.int .u64 W) ∧ Below w.heap.size w w') := by
    intro w
    have := pwrite X on w (by omega)
    rw [tW] at this
    exact this
  have HUW : Hid (∀ w, Calls Try.prog 12 #[.int .u64 W] w fun e w' => e = .returned (.tuple #[.agg #[.int .i64 k, .int .i64 p, .bool on, .bool b], .int .i64 0]) ∧ Below w.heap.size w w') := by
    intro w
    have := punpack W w
    rw [z1, z2, z3, z4, z5] at this
    exact this
  have HR : Hid (∀ w, Calls Try.prog 14 #[.int .u64 X] w fun e w' => e = .returned (.tuple #[.int .u64 R, .bool b]) ∧ Below w.heap.size w w') := by
    intro w
    have := prest X w (by omega)
    rw [tR, x4] at this
    exact this
  have HUR : Hid (∀ w, Calls Try.prog 12 #[.int .u64 R] w fun e w' => e = .returned (.tuple #[.agg #[.int .i64 k, .int .i64 p, .bool a, .bool false], .int .i64 0]) ∧ Below w.heap.size w w') := by
    intro w
    have := punpack R w
    rw [r1, r2, r3, r4, r5] at this
    exact this
  have HWT : Hid (∀ w, Calls Try.prog 16 #[.int .u64 W] w fun e w' => e = .returned (.int .u64 V) ∧ Below w.heap.size w w') := by
    intro w
    have := ptouch W w (by omega)
    rw [tWT] at this
    exact this
  have HTW : Hid (∀ w, Calls Try.prog 18 #[.int .u64 T, .bool on] w fun e w' => e = .returned (.int .u64 V) ∧ Below w.heap.size w w') := by
    intro w
    have := pwrite T on w (by omega)
    rw [tTW] at this
    exact this
  have HTT : Hid (∀ w, Calls Try.prog 16 #[.int .u64 T] w fun e w' => e = .returned (.int .u64 T) ∧ Below w.heap.size w w') := by
    intro w
    have := ptouch T w (by omega)
    rw [tTT] at this
    exact this
  have hgt := guard24
  have hq1 := fun w => eq24 k p a true k p a true w
  have hq2 := fun w => eq24 k p on b k p on b w
  have hq3 := fun w => eq24 k p a false k p a false w
  rw [eqE_same] at hq1 hq2 hq3
  have q1 : ((V : Int) == (V : Int)) = true := by simp
  have q2 : ((T : Int) == (T : Int)) = true := by simp
  have q3 : (b == b) = true := by simp
  clear x1 x2 x3 x4 x5 x6 y1 y2 y3 y4 y5 y6 z1 z2 z3 z4 z5 z6 r1 r2 r3 r4 r5 r6 tT tR tW tWT tTW tTT hXX hp
  obtain ⟨w0, hw0, hr0, hB0, -⟩ := boxOn w w (.int .i64 k) (.int .i64 p) (.bool a) (.bool b) (Below.refl _ _)
  go_enter Try.func6, Try.ntmps6
  go_wp2_with fail
  rw [← hw0]
  clear hw0
  refine (works_any _).mono ?_
  rintro e w1 ⟨rfl, hb1⟩
  have hr1 := hr0.later hb1
  have hB1 := bel_trans hB0 hb1
  clear hr0 hB0 hb1
  obtain ⟨c0, c1, c2, c3⟩ := hr1.four
  go_wp2_with fail
  refine (H1.out _).mono ?_
  rintro e w2 ⟨rfl, hb2⟩
  have hr2 := hr1.later hb2
  have hB2 := bel_trans hB1 hb2
  clear c0 c1 c2 c3 hr1 hB1 hb2
  obtain ⟨c0, c1, c2, c3⟩ := hr2.four
  go_wp2_with fail
  refine (HT.out _).mono ?_
  rintro e w3 ⟨rfl, hb3⟩
  have hr3 := hr2.later hb3
  have hB3 := bel_trans hB2 hb3
  clear c0 c1 c2 c3 hr2 hB2 hb3
  go_wp2_with fail
  refine (HUT.out _).mono ?_
  rintro e w4 ⟨rfl, hb4⟩
  have hr4 := hr3.later hb4
  have hB4 := bel_trans hB3 hb4
  clear hr3 hB3 hb4
  obtain ⟨w5, hw5, a5, hB5, hk5⟩ := boxOn w w4 (.int .i64 k) (.int .i64 p) (.bool a) (.bool true) hB4
  have hr5 := hk5 _ _ _ hr4
  go_wp2_with fail
  rw [← hw5]
  clear hw5 hB4 hr4 hk5
  refine (HW.out _).mono ?_
  rintro e w6 ⟨rfl, hb6⟩
  have hr6 := hr5.later hb6
  have a6 := a5.later hb6
  have hB6 := bel_trans hB5 hb6
  clear hr5 a5 hB5 hb6
  go_wp2_with fail
  refine (HUW.out _).mono ?_
  rintro e w7 ⟨rfl, hb7⟩
  have hr7 := hr6.later hb7
  have a7 := a6.later hb7
  have hB7 := bel_trans hB6 hb7
  clear hr6 a6 hB6 hb7
  obtain ⟨w8, hw8, b8, hB8, hk8⟩ := boxOn w w7 (.int .i64 k) (.int .i64 p) (.bool on) (.bool b) hB7
  have hr8 := hk8 _ _ _ hr7
  have a8 := hk8 _ _ _ a7
  go_upto_region 9 with fail
  rw [← hw8]
  clear hw8 hB7 hr7 a7 hk8
  obtain ⟨c0, c1, c2, c3⟩ := hr8.four
  obtain ⟨w9, hw9, y9, hB9, hk9⟩ := boxOn w w8 (.int .i64 k) (.int .i64 p) (.bool a) (.bool true) hB8
  have hr9 := hk9 _ _ _ hr8
  have a9 := hk9 _ _ _ a8
  have b9 := hk9 _ _ _ b8
  go_upto_region 11 with fail
  rw [← hw9]
  clear hw9 hB8 hr8 a8 b8 hk9 c0 c1 c2 c3
  obtain ⟨c0, c1, c2, c3⟩ := hr9.four
  obtain ⟨u1, hu1, z1, hC1, hl1⟩ := boxOn w w9 (.int .i64 k) (.int .i64 p) (.bool on) (.bool b) hB9
  have hs1 := hl1 _ _ _ hr9
  have a1 := hl1 _ _ _ a9
  have b1 := hl1 _ _ _ b9
  have y1 := hl1 _ _ _ y9
  go_wp2_with fail
  rw [← hu1]
  clear hu1 hB9 hr9 a9 b9 y9 hl1 c0 c1 c2 c3
  refine (HR.out _).mono ?_
  rintro e u2 ⟨rfl, hd2⟩
  have hs2 := hs1.later hd2
  have a2 := a1.later hd2
  have b2 := b1.later hd2
  have y2 := y1.later hd2
  have z2 := z1.later hd2
  have hC2 := bel_trans hC1 hd2
  clear hs1 a1 b1 y1 z1 hC1 hd2
  go_wp2_with fail
  refine (HUR.out _).mono ?_
  rintro e u3 ⟨rfl, hd3⟩
  have hs3 := hs2.later hd3
  have a3 := a2.later hd3
  have b3 := b2.later hd3
  have y3 := y2.later hd3
  have z3 := z2.later hd3
  have hC3 := bel_trans hC2 hd3
  clear hs2 a2 b2 y2 z2 hC2 hd3
  obtain ⟨u4, hu4, r4, hC4, hl4⟩ := boxOn w u3 (.int .i64 k) (.int .i64 p) (.bool a) (.bool false) hC3
  have hs4 := hl4 _ _ _ hs3
  have a4 := hl4 _ _ _ a3
  have b4 := hl4 _ _ _ b3
  have y4 := hl4 _ _ _ y3
  have z4 := hl4 _ _ _ z3
  go_upto_region 15 with fail
  rw [← hu4]
  clear hu4 hC3 hs3 a3 b3 y3 z3 hl4
  obtain ⟨c0, c1, c2, c3⟩ := hs4.four
  obtain ⟨u5, hu5, s5, hC5, hl5⟩ := boxOn w u4 (.int .i64 k) (.int .i64 p) (.bool a) (.bool false) hC4
  have hs5 := hl5 _ _ _ hs4
  have a5 := hl5 _ _ _ a4
  have b5 := hl5 _ _ _ b4
  have y5 := hl5 _ _ _ y4
  have z5 := hl5 _ _ _ z4
  have r5 := hl5 _ _ _ r4
  go_upto_region 17 with fail
  rw [← hu5]
  clear hu5 hC4 hs4 a4 b4 y4 z4 r4 hl5 c0 c1 c2 c3
  obtain ⟨-, -, -, c3⟩ := hs5.four
  obtain ⟨a50, a51, a52, a53⟩ := a5.four
  obtain ⟨b50, b51, b52, b53⟩ := b5.four
  obtain ⟨y50, y51, y52, y53⟩ := y5.four
  obtain ⟨z50, z51, z52, z53⟩ := z5.four
  obtain ⟨r50, r51, r52, r53⟩ := r5.four
  obtain ⟨s50, s51, s52, s53⟩ := s5.four
  clear hs5 a5 b5 y5 z5 r5 s5
  go_wp2_with fail
  refine (HW.out _).mono ?_
  rintro e u6 ⟨rfl, hd6⟩
  have hC6 := bel_trans hC5 hd6
  clear c3 a50 a51 a52 a53 b50 b51 b52 b53 y50 y51 y52 y53 z50 z51 z52 z53 r50 r51 r52 r53 s50 s51 s52 s53 hd6 hC5
  go_wp2_with fail
  refine (HWT.out _).mono ?_
  rintro e u7 ⟨rfl, hd7⟩
  have hC7 := bel_trans hC6 hd7
  clear hC6 hd7
  go_wp2_with fail
  refine (HT.out _).mono ?_
  rintro e u8 ⟨rfl, hd8⟩
  have hC8 := bel_trans hC7 hd8
  clear hC7 hd8
  go_wp2_with fail
  refine (HTW.out _).mono ?_
  rintro e u9 ⟨rfl, hd9⟩
  have hC9 := bel_trans hC8 hd9
  clear hC8 hd9
  go_wp2_with fail
  refine (HT.out _).mono ?_
  rintro e u10 ⟨rfl, hd10⟩
  have hC10 := bel_trans hC9 hd10
  clear hC9 hd10
  go_wp2_with fail
  refine (HTT.out _).mono ?_
  rintro e u11 ⟨rfl, hd11⟩
  have hC11 := bel_trans hC10 hd11
  clear hC10 hd11
  go_wp2_with fail
  refine (HT.out _).mono ?_
  rintro e u12 ⟨rfl, hd12⟩
  have hC12 := bel_trans hC11 hd12
  clear hC11 hd12
  go_wp2_with fail
  go_ret
  exact ⟨rfl, hC12⟩

theorem one_walk (k p : Int) (a b on : Bool) (w : World) (hp : -9223372036854775808 ≤ p ∧ p ≤ 9223372036854775807) :
    Calls Try.prog 6 #[.agg #[.int .i64 k, .int .i64 p, .bool a, .bool b], .bool on] w fun e w' => e = .returned (.bool true) ∧ Below w.heap.size w w' := by
  cases ho : packOk k p a b with
  | false => exact one_no k p a b on w hp ho
  | true =>
    by_cases hk : k = 0
    · rcases (packOk_yes ho).2.2 with ⟨rfl, rfl, rfl, rfl⟩ | h
      · exact one_zero on w
      · omega
    · exact one_word k p a b on w hp ho hk
end Go.Proofs.Ytlpbpibjofepjaa
