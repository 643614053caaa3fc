/-
  Contracts of the document's own Touch, Rest, Write.
-/
import Derived.Test.YtlpbpibjofepjaaR2
namespace Go.Proofs.Ytlpbpibjofepjaa
open Go.RowKit

/-- What a word is: none, or nought, or one that leads somewhere. -/
theorem three (x : Nat) : isEnt x = false ∨ x = 0 ∨ ∃ (k p : Int) (a b : Bool), packOk k p a b = true ∧ k ≠ 0 ∧ x = wordOf k p a b := by
  cases h : isEnt x with
  | false => exact Or.inl rfl
  | true =>
    by_cases hz : x = 0
    · exact Or.inr (Or.inl hz)
    · obtain ⟨k, p, a, b, h1, rfl⟩ := ent_word h
      refine Or.inr (Or.inr ⟨k, p, a, b, h1, fun e => ?_, rfl⟩)
      rcases (packOk_yes h1).2.2 with ⟨-, rfl, rfl, rfl⟩ | h2
      · subst e; exact hz (by decide)
      · omega
theorem none_told {x : Nat} (h : isEnt x = false) : eK x = 0 ∧ eP x = 0 ∧ eW x = false ∧ eT x = false ∧ eE x = 1 := by simp [eK, eP, eW, eT, eE, h]
theorem zero_told : eK 0 = 0 ∧ eP 0 = 0 ∧ eW 0 = false ∧ eT 0 = false ∧ eE 0 = 0 := by decide

set_option maxHeartbeats 4000000 in
theorem rwith27 (x : Nat) (on : Bool) (w : World) (hx : x < 18446744073709551616) :
    Calls Try.prog 29 #[.int .u64 x, .int .i64 (-1), .int .i64 (bi on)] w fun e w' => e = .returned (.int .u64 (turnX x 27 on)) ∧ Below w.heap.size w w' := by
  have hU : ∀ w, Calls Try.prog 13 #[.int .u64 x] w fun e w' => e = .returned (.tuple #[.agg #[.int .i64 (eK x), .int .i64 (eP x), .bool (eW x), .bool (eT x)], .int .i64 (eE x)]) ∧ Below w.heap.size w w' := fun w => runpack x w hx
  obtain ⟨C, hC⟩ : ∃ C, C = bi on := ⟨_, rfl⟩
  have hC0 : 0 ≤ C := by rw [hC]; exact (bi_bd on).1
  have hC1 : (C == 1) = on := by rw [hC]; cases on <;> rfl
  rw [← hC]
  clear hC
  rcases three x with h | h | ⟨k, p, a, b, h1, hk, hxe⟩
  · obtain ⟨y1, y2, y3, y4, y5⟩ := none_told h
    rw [y1, y2, y3, y4, y5] at hU
    rw [turn_none 27 on (Or.inl h)]
    have HU := (show Hid _ from hU)
    clear hU y1 y2 y3 y4 y5 h hx hC1
    go_enter Try.func29, Try.ntmps29
    go_wp2_with fail
    refine (HU.out _).mono ?_
    rintro e w1 ⟨rfl, hb1⟩
    go_wp2_with fail
    go_ret
    exact ⟨rfl, bel_trans hb1 (below_alloc _ _)⟩
  · subst h
    obtain ⟨y1, y2, y3, y4, y5⟩ := zero_told
    rw [y1, y2, y3, y4, y5] at hU
    rw [turn_none 27 on (Or.inr rfl)]
    have HU := (show Hid _ from hU)
    clear hU y1 y2 y3 y4 y5 hx hC1
    go_enter Try.func29, Try.ntmps29
    go_wp2_with fail
    refine (HU.out _).mono ?_
    rintro e w1 ⟨rfl, hb1⟩
    go_wp2_with fail
    go_ret
    exact ⟨rfl, bel_trans hb1 (below_alloc _ _)⟩
  · subst hxe
    obtain ⟨-, y1, y2, y3, y4, y5, -⟩ := word_ent h1
    rw [y1, y2, y3, y4, y5] at hU
    obtain ⟨t26, t27, o26, o27⟩ := turn_word h1 hk on
    rw [t27]
    have hpb := packOk_yes h1
    have HP : Hid (∀ w, Calls Try.prog 11 #[.agg #[.int .i64 k, .int .i64 p, .bool a, .bool on]] w fun e w' => e = .returned (.tuple #[.int .u64 (wordOf k p a on), .int .i64 0]) ∧ Below w.heap.size w w') := by
      intro w
      have := rpack k p a on w (by omega)
      rw [packX_ok o27, packE_ok o27] at this
      exact this
    have HU := (show Hid _ from hU)
    have hk0 : (k == 0) = false := by simpa using hk
    obtain ⟨X, hX⟩ : ∃ X, X = wordOf k p a b := ⟨_, rfl⟩
    obtain ⟨Y, hY⟩ : ∃ X, X = wordOf k p a on := ⟨_, rfl⟩
    rw [← hX] at HU
    rw [← hY] at HP
    rw [← hX, ← hY]
    clear hU y1 y2 y3 y4 y5 hx t26 t27 o26 o27 h1 hX hY hpb hk
    go_enter Try.func29, Try.ntmps29
    go_wp2_with fail
    refine (HU.out _).mono ?_
    rintro e w1 ⟨rfl, hb1⟩
    go_wp2_with fail
    refine (HP.out _).mono ?_
    rintro e w2 ⟨rfl, hb2⟩
    go_wp2_with fail
    go_ret
    exact ⟨rfl, bel_trans (bel_trans hb1 (below_alloc _ _)) hb2⟩

set_option maxHeartbeats 4000000 in
theorem rwith26 (x : Nat) (on : Bool) (w : World) (hx : x < 18446744073709551616) :
    Calls Try.prog 29 #[.int .u64 x, .int .i64 (bi on), .int .i64 (-1)] w fun e w' => e = .returned (.int .u64 (turnX x 26 on)) ∧ Below w.heap.size w w' := by
  have hU : ∀ w, Calls Try.prog 13 #[.int .u64 x] w fun e w' => e = .returned (.tuple #[.agg #[.int .i64 (eK x), .int .i64 (eP x), .bool (eW x), .bool (eT x)], .int .i64 (eE x)]) ∧ Below w.heap.size w w' := fun w => runpack x w hx
  obtain ⟨C, hC⟩ : ∃ C, C = bi on := ⟨_, rfl⟩
  have hC0 : 0 ≤ C := by rw [hC]; exact (bi_bd on).1
  have hC1 : (C == 1) = on := by rw [hC]; cases on <;> rfl
  rw [← hC]
  clear hC
  rcases three x with h | h | ⟨k, p, a, b, h1, hk, hxe⟩
  · obtain ⟨y1, y2, y3, y4, y5⟩ := none_told h
    rw [y1, y2, y3, y4, y5] at hU
    rw [turn_none 26 on (Or.inl h)]
    have HU := (show Hid _ from hU)
    clear hU y1 y2 y3 y4 y5 h hx hC1
    go_enter Try.func29, Try.ntmps29
    go_wp2_with fail
    refine (HU.out _).mono ?_
    rintro e w1 ⟨rfl, hb1⟩
    go_wp2_with fail
    go_ret
    exact ⟨rfl, bel_trans hb1 (below_alloc _ _)⟩
  · subst h
    obtain ⟨y1, y2, y3, y4, y5⟩ := zero_told
    rw [y1, y2, y3, y4, y5] at hU
    rw [turn_none 26 on (Or.inr rfl)]
    have HU := (show Hid _ from hU)
    clear hU y1 y2 y3 y4 y5 hx hC1
    go_enter Try.func29, Try.ntmps29
    go_wp2_with fail
    refine (HU.out _).mono ?_
    rintro e w1 ⟨rfl, hb1⟩
    go_wp2_with fail
    go_ret
    exact ⟨rfl, bel_trans hb1 (below_alloc _ _)⟩
  · subst hxe
    obtain ⟨-, y1, y2, y3, y4, y5, -⟩ := word_ent h1
    rw [y1, y2, y3, y4, y5] at hU
    obtain ⟨t26, t27, o26, o27⟩ := turn_word h1 hk on
    rw [t26]
    have hpb := packOk_yes h1
    have HP : Hid (∀ w, Calls Try.prog 11 #[.agg #[.int .i64 k, .int .i64 p, .bool on, .bool b]] w fun e w' => e = .returned (.tuple #[.int .u64 (wordOf k p on b), .int .i64 0]) ∧ Below w.heap.size w w') := by
      intro w
      have := rpack k p on b w (by omega)
      rw [packX_ok o26, packE_ok o26] at this
      exact this
    have HU := (show Hid _ from hU)
    have hk0 : (k == 0) = false := by simpa using hk
    obtain ⟨X, hX⟩ : ∃ X, X = wordOf k p a b := ⟨_, rfl⟩
    obtain ⟨Y, hY⟩ : ∃ X, X = wordOf k p on b := ⟨_, rfl⟩
    rw [← hX] at HU
    rw [← hY] at HP
    rw [← hX, ← hY]
    clear hU y1 y2 y3 y4 y5 hx t26 t27 o26 o27 h1 hX hY hpb hk
    go_enter Try.func29, Try.ntmps29
    go_wp2_with fail
    refine (HU.out _).mono ?_
    rintro e w1 ⟨rfl, hb1⟩
    go_wp2_with fail
    refine (HP.out _).mono ?_
    rintro e w2 ⟨rfl, hb2⟩
    go_wp2_with fail
    go_ret
    exact ⟨rfl, bel_trans (bel_trans hb1 (below_alloc _ _)) hb2⟩

theorem rtouch (x : Nat) (w : World) (hx : x < 18446744073709551616) :
    Calls Try.prog 17 #[.int .u64 x] w fun e w' => e = .returned (.int .u64 (turnX x 27 true)) ∧ Below w.heap.size w w' := by
  obtain ⟨Y, hY⟩ : ∃ Y, Y = turnX x 27 true := ⟨_, rfl⟩
  have HT : Hid (∀ w, Calls Try.prog 29 #[.int .u64 x, .int .i64 (-1), .int .i64 1] w fun e w' => e = .returned (.int .u64 Y) ∧ Below w.heap.size w w') := by
    intro w; rw [hY]; exact rwith27 x true w hx
  rw [← hY]
  clear hY hx
  go_enter Try.func17, Try.ntmps17
  go_wp2_with fail
  refine (HT.out _).mono ?_
  rintro e w1 ⟨rfl, hb⟩
  go_wp2
  go_ret
  exact ⟨rfl, hb⟩
theorem rwrite (x : Nat) (on : Bool) (w : World) (hx : x < 18446744073709551616) :
    Calls Try.prog 19 #[.int .u64 x, .bool on] w fun e w' => e = .returned (.int .u64 (turnX x 26 on)) ∧ Below w.heap.size w w' := by
  obtain ⟨Y, hY⟩ : ∃ Y, Y = turnX x 26 on := ⟨_, rfl⟩
  have HT : Hid (∀ w, Calls Try.prog 29 #[.int .u64 x, .int .i64 (bi on), .int .i64 (-1)] w fun e w' => e = .returned (.int .u64 Y) ∧ Below w.heap.size w w') := by
    intro w; rw [hY]; exact rwith26 x on w hx
  rw [← hY]
  clear hY hx
  go_enter Try.func19, Try.ntmps19
  go_wp2_with fail
  refine (rbit on _).mono ?_
  rintro e w1 ⟨rfl, rfl⟩
  go_wp2_with fail
  refine (HT.out _).mono ?_
  rintro e w1 ⟨rfl, hb⟩
  go_wp2
  go_ret
  exact ⟨rfl, hb⟩

set_option maxHeartbeats 4000000 in
theorem rrest (x : Nat) (w : World) (hx : x < 18446744073709551616) :
    Calls Try.prog 15 #[.int .u64 x] w fun e w' => e = .returned (.tuple #[.int .u64 (turnX x 27 false), .bool (eT x)]) ∧ Below w.heap.size w w' := by
  obtain ⟨Y, hY⟩ : ∃ Y, Y = turnX x 27 false := ⟨_, rfl⟩
  obtain ⟨T, hT⟩ : ∃ Y, Y = eT x := ⟨_, rfl⟩
  have hU : ∀ w, Calls Try.prog 13 #[.int .u64 x] w fun e w' => e = .returned (.tuple #[.agg #[.int .i64 (eK x), .int .i64 (eP x), .bool (eW x), .bool (eT x)], .int .i64 (eE x)]) ∧ Below w.heap.size w w' := fun w => runpack x w hx
  obtain ⟨K, hK⟩ : ∃ K, K = eK x := ⟨_, rfl⟩
  obtain ⟨P, hP⟩ : ∃ K, K = eP x := ⟨_, rfl⟩
  obtain ⟨A, hA⟩ : ∃ K, K = eW x := ⟨_, rfl⟩
  obtain ⟨E, hE⟩ : ∃ K, K = eE x := ⟨_, rfl⟩
  have HT : Hid (∀ (w : World) (p : Addr), w.cell? p = some (.bool T) → Calls Try.prog 29 #[.int .u64 x, .int .i64 (-1), .int .i64 0] w fun e w' => e = .returned (.int .u64 Y) ∧ Below w.heap.size w w' ∧ w'.cell? p = some (.bool T)) := by
    intro w p hp
    rw [hY]
    exact (rwith27 x false w hx).mono fun _ _ h => ⟨h.1, h.2, cell_later h.2 hp⟩
  rw [← hK, ← hP, ← hA, ← hT, ← hE] at hU
  rw [← hY, ← hT]
  have HU := (show Hid _ from hU)
  clear hY hx hT hU hK hP hA hE
  go_enter Try.func15, Try.ntmps15
  go_wp2_with fail
  refine (HU.out _).mono ?_
  rintro e w1 ⟨rfl, hb1⟩
  obtain ⟨w2, hw2, hr2, hB2, -⟩ := boxOn w w1 (.int .i64 K) (.int .i64 P) (.bool A) (.bool T) hb1
  go_wp2_with fail
  rw [← hw2]
  clear hw2 hb1
  obtain ⟨c0, c1, c2, c3⟩ := hr2.four
  clear c0 c1 c2 hr2
  go_region_held3 (fun w' => w'.cell? ⟨w1.heap.size, 3, none⟩ = some (.bool T)) (go_keep)
    (first | (go_at_call 29; refine (HT.out _ _ (by assumption)).mono ?_; rintro e w3 ⟨rfl, hb3, d3⟩))
  go_wp2
  go_ret2
  exact ⟨rfl, bel_trans (below_drawn hB2 1) hb3⟩
end Go.Proofs.Ytlpbpibjofepjaa
