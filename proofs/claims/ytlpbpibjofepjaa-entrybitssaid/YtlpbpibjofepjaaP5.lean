/-
  Entries and their words, one for one; the contracts of entry.Touch, Rest and Write; the document's example.
-/
import Derived.Test.YtlpbpibjofepjaaP4
namespace Go.Proofs.Ytlpbpibjofepjaa
open Go.RowKit

/-! ### entries and their words -/
theorem packOk_yes {k p : Int} {a b : Bool} (h : packOk k p a b = true) : 0 ≤ p ∧ p < 16777216 ∧ ((k = 0 ∧ p = 0 ∧ a = false ∧ b = false) ∨ k = 1 ∨ k = 2) := by
  unfold packOk mayB at h
  by_cases hk : k = 0
  · subst hk
    simp at h
    refine ⟨by omega, by omega, Or.inl ⟨rfl, by omega, h.1.1.2, h.1.2⟩⟩
  · rw [if_neg hk] at h
    simp at h
    omega
theorem packOk_of {k p : Int} {a b : Bool} (h1 : 0 ≤ p) (h2 : p < 16777216) (h3 : k = 1 ∨ k = 2) : packOk k p a b = true := by
  unfold packOk mayB
  rw [if_neg (by omega)]
  simp [h1, h2, h3]
theorem packOk_zero : packOk 0 0 false false = true := by decide
theorem packX_ok {k p : Int} {a b : Bool} (h : packOk k p a b = true) : packX k p a b = wordOf k p a b := by simp [packX, h]
theorem packE_ok {k p : Int} {a b : Bool} (h : packOk k p a b = true) : packE k p a b = 0 := by simp [packE, h]
theorem packX_no {k p : Int} {a b : Bool} (h : packOk k p a b = false) : packX k p a b = 0 := by simp [packX, h]
theorem packE_no {k p : Int} {a b : Bool} (h : packOk k p a b = false) : packE k p a b = 1 := by simp [packE, h]

theorem b2n (b : Bool) : b.toNat ≤ 1 ∧ ((b.toNat == 1) = b) := by cases b <;> decide
theorem word_eqs (k p : Int) (a b : Bool) (hk : 0 ≤ k ∧ k ≤ 2) (hp : 0 ≤ p ∧ p < 16777216) :
    wordOf k p a b < 268435456 ∧ ((wordOf k p a b % 4 : Nat) : Int) = k ∧ ((wordOf k p a b / 4 % 16777216 : Nat) : Int) = p ∧ wordOf k p a b / 67108864 % 2 = a.toNat ∧ wordOf k p a b / 134217728 % 2 = b.toNat := by
  have ha := (b2n a).1
  have hb := (b2n b).1
  unfold wordOf
  generalize a.toNat = A at *
  generalize b.toNat = B at *
  obtain ⟨K, rfl⟩ := Int.eq_ofNat_of_zero_le hk.1
  obtain ⟨P, rfl⟩ := Int.eq_ofNat_of_zero_le hp.1
  simp only [Int.toNat_natCast]
  omega

/-- The word of an entry is that of this entry alone. -/
theorem word_ent {k p : Int} {a b : Bool} (h : packOk k p a b = true) :
    isEnt (wordOf k p a b) = true ∧ eK (wordOf k p a b) = k ∧ eP (wordOf k p a b) = p ∧ eW (wordOf k p a b) = a ∧ eT (wordOf k p a b) = b ∧ eE (wordOf k p a b) = 0 ∧ wordOf k p a b < 268435456 := by
  obtain ⟨h1, h2, h3⟩ := packOk_yes h
  have hk : 0 ≤ k ∧ k ≤ 2 := by omega
  obtain ⟨e0, e1, e2, e3, e4⟩ := word_eqs k p a b hk ⟨h1, h2⟩
  have hi : isEnt (wordOf k p a b) = true := by
    apply isEnt_of e0
    rcases h3 with ⟨rfl, rfl, rfl, rfl⟩ | h3
    · exact Or.inl (by decide)
    · right; omega
  refine ⟨hi, ?_, ?_, ?_, ?_, ?_, e0⟩
  · simp only [eK, hi, if_true]; exact e1
  · simp only [eP, hi, if_true]; exact e2
  · simp only [eW, hi, e3, Bool.true_and]; exact (b2n a).2
  · simp only [eT, hi, e4, Bool.true_and]; exact (b2n b).2
  · simp [eE, hi]
/-- Each word that is an entry is that entry's. -/
theorem ent_word {x : Nat} (h : isEnt x = true) : ∃ (k p : Int) (a b : Bool), packOk k p a b = true ∧ x = wordOf k p a b := by
  obtain ⟨h1, h2⟩ := isEnt_yes h
  by_cases hz : x = 0
  · exact ⟨0, 0, false, false, packOk_zero, by rw [hz]; decide⟩
  · refine ⟨((x % 4 : Nat) : Int), ((x / 4 % 16777216 : Nat) : Int), x / 67108864 % 2 == 1, x / 134217728 % 2 == 1, packOk_of (by omega) (by omega) (by omega), ?_⟩
    have q : ∀ n : Nat, (n % 2 == 1).toNat = n % 2 := fun n => by rcases Nat.mod_two_eq_zero_or_one n with h | h <;> simp [h]
    unfold wordOf
    rw [q, q]
    simp only [Int.toNat_natCast]
    omega
theorem word_inj {k p : Int} {a b : Bool} {k' p' : Int} {a' b' : Bool} (h : packOk k p a b = true) (h' : packOk k' p' a' b' = true) (e : wordOf k p a b = wordOf k' p' a' b') : k = k' ∧ p = p' ∧ a = a' ∧ b = b' := by
  obtain ⟨-, e1, e2, e3, e4, -, -⟩ := word_ent h
  obtain ⟨-, f1, f2, f3, f4, -, -⟩ := word_ent h'
  rw [e] at e1 e2 e3 e4
  exact ⟨e1.symm.trans f1, e2.symm.trans f2, e3.symm.trans f3, e4.symm.trans f4⟩
theorem word_zero {k p : Int} {a b : Bool} (h : packOk k p a b = true) (hk : k ≠ 0) : wordOf k p a b ≠ 0 := fun e => by
  have := (word_ent h).2.1
  rw [e] at this
  exact hk (by rw [← this]; decide)

theorem setb26 (k p : Int) (a b on : Bool) (hk : 0 ≤ k ∧ k ≤ 2) (hp : 0 ≤ p ∧ p < 16777216) : setb (wordOf k p a b) 26 on = wordOf k p on b := by
  have ha := (b2n a).1
  have hb := (b2n b).1
  unfold setb wordOf
  generalize a.toNat = A at *
  generalize b.toNat = B at *
  generalize on.toNat = C at *
  obtain ⟨K, rfl⟩ := Int.eq_ofNat_of_zero_le hk.1
  obtain ⟨P, rfl⟩ := Int.eq_ofNat_of_zero_le hp.1
  simp only [Int.toNat_natCast]
  omega
theorem setb27 (k p : Int) (a b on : Bool) (hk : 0 ≤ k ∧ k ≤ 2) (hp : 0 ≤ p ∧ p < 16777216) : setb (wordOf k p a b) 27 on = wordOf k p a on := by
  have ha := (b2n a).1
  have hb := (b2n b).1
  unfold setb wordOf
  generalize a.toNat = A at *
  generalize b.toNat = B at *
  generalize on.toNat = C at *
  obtain ⟨K, rfl⟩ := Int.eq_ofNat_of_zero_le hk.1
  obtain ⟨P, rfl⟩ := Int.eq_ofNat_of_zero_le hp.1
  simp only [Int.toNat_natCast]
  omega
/-- What is turned, of an entry that leads somewhere. -/
theorem turn_word {k p : Int} {a b : Bool} (h : packOk k p a b = true) (hk : k ≠ 0) (on : Bool) :
    turnX (wordOf k p a b) 26 on = wordOf k p on b ∧ turnX (wordOf k p a b) 27 on = wordOf k p a on ∧ packOk k p on b = true ∧ packOk k p a on = true := by
  obtain ⟨h1, h2, h3⟩ := packOk_yes h
  have h4 : k = 1 ∨ k = 2 := by omega
  have c : (isEnt (wordOf k p a b) && wordOf k p a b != 0) = true := by
    rw [(word_ent h).1]
    simpa using word_zero h hk
  refine ⟨?_, ?_, packOk_of h1 h2 h4, packOk_of h1 h2 h4⟩
  · unfold turnX
    rw [if_pos c, setb26 k p a b on (by omega) ⟨h1, h2⟩]
  · unfold turnX
    rw [if_pos c, setb27 k p a b on (by omega) ⟨h1, h2⟩]
theorem turn_none {x : Nat} (i : Nat) (on : Bool) (h : isEnt x = false ∨ x = 0) : turnX x i on = x := by
  unfold turnX
  rcases h with h | h
  · simp [h]
  · simp [h]
theorem turn_lt (x : Nat) (on : Bool) (hx : x < 18446744073709551616) : turnX x 26 on < 18446744073709551616 ∧ turnX x 27 on < 18446744073709551616 := by
  cases h : isEnt x with
  | false => rw [turn_none 26 on (Or.inl h), turn_none 27 on (Or.inl h)]; exact ⟨hx, hx⟩
  | true =>
    by_cases hz : x = 0
    · rw [turn_none 26 on (Or.inr hz), turn_none 27 on (Or.inr hz)]; exact ⟨hx, hx⟩
    · obtain ⟨k, p, a, b, h1, rfl⟩ := ent_word h
      have hk : k ≠ 0 := fun e => by
        rcases (packOk_yes h1).2.2 with ⟨-, rfl, rfl, rfl⟩ | h2
        · subst e; exact hz (by decide)
        · omega
      obtain ⟨e1, e2, e3, e4⟩ := turn_word h1 hk on
      rw [e1, e2]
      have := (word_ent e3).2.2.2.2.2.2
      have := (word_ent e4).2.2.2.2.2.2
      omega
/-- Was it touched? -/
theorem rest_told (x : Nat) : (((turnX x 27 false : Nat) : Int) != (x : Int)) = eT x := by
  cases h : isEnt x with
  | false => rw [turn_none 27 false (Or.inl h)]; simp [eT, h]
  | true =>
    by_cases hz : x = 0
    · subst hz; decide
    · obtain ⟨k, p, a, b, h1, rfl⟩ := ent_word h
      have hk : k ≠ 0 := fun e => by
        rcases (packOk_yes h1).2.2 with ⟨-, rfl, rfl, rfl⟩ | h2
        · subst e; exact hz (by decide)
        · omega
      obtain ⟨-, e2, -, -⟩ := turn_word h1 hk false
      rw [e2, (word_ent h1).2.2.2.2.1]
      unfold wordOf
      cases b
      · simp
      · simp; omega

/-! ### the calls -/
theorem ptouch (x : Nat) (w : World) (hx : x < 18446744073709551616) :
    Calls Try.prog 16 #[.int .u64 x] w fun e w' => e = .returned (.int .u64 (turnX x 27 true)) ∧ Below w.heap.size w w' := by
  obtain ⟨Y, hY⟩ : ∃ Y, Y = turnX x 27 true := ⟨_, rfl⟩
  have HT : Hid (∀ w, Calls Try.prog 28 #[.int .u64 x, .int .u64 27, .bool true] w fun e w' => e = .returned (.int .u64 Y) ∧ Below w.heap.size w w') := by
    intro w; rw [hY]; exact pturn27 x true w hx
  rw [← hY]
  clear hY hx
  go_enter Try.func16, Try.ntmps16
  go_wp2_with fail
  refine (HT.out _).mono ?_
  rintro e w1 ⟨rfl, hb⟩
  go_wp2
  go_ret
  exact ⟨rfl, hb⟩
theorem pwrite (x : Nat) (on : Bool) (w : World) (hx : x < 18446744073709551616) :
    Calls Try.prog 18 #[.int .u64 x, .bool on] w fun e w' => e = .returned (.int .u64 (turnX x 26 on)) ∧ Below w.heap.size w w' := by
  obtain ⟨Y, hY⟩ : ∃ Y, Y = turnX x 26 on := ⟨_, rfl⟩
  have HT : Hid (∀ w, Calls Try.prog 28 #[.int .u64 x, .int .u64 26, .bool on] w fun e w' => e = .returned (.int .u64 Y) ∧ Below w.heap.size w w') := by
    intro w; rw [hY]; exact pturn26 x on w hx
  rw [← hY]
  clear hY hx
  go_enter Try.func18, Try.ntmps18
  go_wp2_with fail
  refine (HT.out _).mono ?_
  rintro e w1 ⟨rfl, hb⟩
  go_wp2
  go_ret
  exact ⟨rfl, hb⟩
theorem prest (x : Nat) (w : World) (hx : x < 18446744073709551616) :
    Calls Try.prog 14 #[.int .u64 x] w fun e w' => e = .returned (.tuple #[.int .u64 (turnX x 27 false), .bool (eT x)]) ∧ Below w.heap.size w w' := by
  have hn := rest_told x
  obtain ⟨Y, hY⟩ : ∃ Y, Y = turnX x 27 false := ⟨_, rfl⟩
  obtain ⟨T, hT⟩ : ∃ Y, Y = eT x := ⟨_, rfl⟩
  have HT : Hid (∀ w, Calls Try.prog 28 #[.int .u64 x, .int .u64 27, .bool false] w fun e w' => e = .returned (.int .u64 Y) ∧ Below w.heap.size w w') := by
    intro w; rw [hY]; exact pturn27 x false w hx
  rw [← hY, ← hT] at hn
  rw [← hY, ← hT]
  clear hY hx hT
  go_enter Try.func14, Try.ntmps14
  go_wp2_with fail
  refine (HT.out _).mono ?_
  rintro e w1 ⟨rfl, hb⟩
  go_wp2
  go_ret2
  exact ⟨rfl, hb⟩

/-- A struct laid in a box of its own. -/
theorem boxOn (w w2 : World) (v0 v1 v2 v3 : Value) (hB : Below w.heap.size w w2) : ∃ w3, w3 = w2.alloc (.cells #[v0, v1, v2, v3] 24) ∧ RowAt w3 w2.heap.size 24 [v0, v1, v2, v3] ∧ Below w.heap.size w w3 ∧ ∀ b t vs, RowAt w2 b t vs → RowAt w3 b t vs :=
  ⟨_, rfl, RowAt.new w2 #[v0, v1, v2, v3] 24, hB.trans ((below_alloc _ _).mono hB.size), fun _ _ _ h => h.alloc _⟩
theorem RowAt.later {w w' : World} {b : Nat} {t : TypeId} {vs : List Value} (h : RowAt w b t vs) (hb : Below w.heap.size w w') : RowAt w' b t vs := h.below hb h.lt
theorem bel_trans {w w1 w2 : World} (h : Below w.heap.size w w1) (h2 : Below w1.heap.size w1 w2) : Below w.heap.size w w2 := h.trans (h2.mono h.size)

/-! ### the example -/
theorem ex_pack : packX 1 5 true false = 67108885 ∧ packE 1 5 true false = 0 := by decide
theorem ex_unpack : eK 67108885 = 1 ∧ eP 67108885 = 5 ∧ eW 67108885 = true ∧ eT 67108885 = false ∧ eE 67108885 = 0 := by decide
theorem ex_touch : turnX 67108885 27 true = 201326613 := by decide
theorem ex_rest : turnX 201326613 27 false = 67108885 ∧ eT 201326613 = true := by decide
theorem ex_write : turnX 67108885 26 false = 21 := by decide

set_option maxRecDepth 100000 in
set_option maxHeartbeats 2000000 in
theorem works_any (w : World) : Calls Try.prog 9 #[] w fun e w' => e = .returned (.bool true) ∧ Below w.heap.size w w' := by
  have H1 : Hid (∀ w, Calls Try.prog 10 #[.agg #[.int .i64 1, .int .i64 5, .bool true, .bool false]] w fun e w' => e = .returned (.tuple #[.int .u64 67108885, .int .i64 0]) ∧ Below w.heap.size w w') := by
    intro w
    have := ppack 1 5 true false w (by decide)
    rw [ex_pack.1, ex_pack.2] at this
    exact this
  have H2 : Hid (∀ w, Calls Try.prog 12 #[.int .u64 67108885] w fun e w' => e = .returned (.tuple #[.agg #[.int .i64 1, .int .i64 5, .bool true, .bool false], .int .i64 0]) ∧ Below w.heap.size w w') := by
    intro w
    have := punpack 67108885 w
    rw [ex_unpack.1, ex_unpack.2.1, ex_unpack.2.2.1, ex_unpack.2.2.2.1, ex_unpack.2.2.2.2] at this
    exact this
  have H3 : Hid (∀ w, Calls Try.prog 16 #[.int .u64 67108885] w fun e w' => e = .returned (.int .u64 201326613) ∧ Below w.heap.size w w') := by
    intro w
    have := ptouch 67108885 w (by decide)
    rw [ex_touch] at this
    exact this
  have H4 : Hid (∀ w, Calls Try.prog 14 #[.int .u64 201326613] w fun e w' => e = .returned (.tuple #[.int .u64 67108885, .bool true]) ∧ Below w.heap.size w w') := by
    intro w
    have := prest 201326613 w (by decide)
    rw [ex_rest.1, ex_rest.2] at this
    exact this
  have H5 : Hid (∀ w, Calls Try.prog 18 #[.int .u64 67108885, .bool false] w fun e w' => e = .returned (.int .u64 21) ∧ Below w.heap.size w w') := by
    intro w
    have := pwrite 67108885 false w (by decide)
    rw [ex_write] at this
    exact this
  go_enter Try.func9, Try.ntmps9
  go_wp2_with fail
  refine (H1.out _).mono ?_
  rintro e w1 ⟨rfl, hb1⟩
  go_wp2_with fail
  refine (H2.out _).mono ?_
  rintro e w2 ⟨rfl, hb2⟩
  have hB2 := hb1.trans (hb2.mono hb1.size)
  clear hb1 hb2
  go_wp2_with fail
  obtain ⟨w3, hw3, hr3, hB3, -⟩ := boxOn w w2 (.int .i64 1) (.int .i64 5) (.bool true) (.bool false) hB2
  rw [← hw3]
  clear hw3 hB2
  refine (H3.out _).mono ?_
  rintro e w4 ⟨rfl, hb4⟩
  have hr4 := hr3.later hb4
  have hB4 := bel_trans hB3 hb4
  clear hr3 hB3 hb4
  go_wp2_with fail
  refine (H4.out _).mono ?_
  rintro e w5 ⟨rfl, hb5⟩
  have hr5 := hr4.later hb5
  have hB5 := bel_trans hB4 hb5
  clear hr4 hB4 hb5
  obtain ⟨c0, c1, c2, c3⟩ := hr5.four
  go_wp2_with fail
  refine (H5.out _).mono ?_
  rintro e w6 ⟨rfl, hb6⟩
  have hB6 := bel_trans hB5 hb6
  go_wp2_with fail
  go_ret
  exact ⟨rfl, hB6⟩
end Go.Proofs.Ytlpbpibjofepjaa
