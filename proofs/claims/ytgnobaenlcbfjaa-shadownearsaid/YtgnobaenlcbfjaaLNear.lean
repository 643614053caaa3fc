/-
  The law ShadowNear walked.
-/
import Derived.Test.YtgnobaenlcbfjaaOwn
namespace Go.Proofs.Ytgnobaenlcbfjaa
open Go.RowKit Go.ChangeShapes Go.WideShapes Go.ChangeAt

set_option maxRecDepth 100000 in
set_option maxHeartbeats 8000000 in
theorem near_out (n a r m : Int) (w : World)
    (h : decide (n < 1) = true ∨ (decide (n < 1) = false ∧ decide (60 < n) = true) ∨ (decide (n < 1) = false ∧ decide (60 < n) = false ∧ decide (a < 0) = true) ∨
      (decide (n < 1) = false ∧ decide (60 < n) = false ∧ decide (a < 0) = false ∧ decide (n ≤ a) = true) ∨
      (decide (n < 1) = false ∧ decide (60 < n) = false ∧ decide (a < 0) = false ∧ decide (n ≤ a) = false ∧ decide (r < 0) = true) ∨
      (decide (n < 1) = false ∧ decide (60 < n) = false ∧ decide (a < 0) = false ∧ decide (n ≤ a) = false ∧ decide (r < 0) = false ∧ decide (1000 < r) = true) ∨
      (decide (n < 1) = false ∧ decide (60 < n) = false ∧ decide (a < 0) = false ∧ decide (n ≤ a) = false ∧ decide (r < 0) = false ∧ decide (1000 < r) = false ∧ decide (m < 0) = true) ∨
      (decide (n < 1) = false ∧ decide (60 < n) = false ∧ decide (a < 0) = false ∧ decide (n ≤ a) = false ∧ decide (r < 0) = false ∧ decide (1000 < r) = false ∧ decide (m < 0) = false ∧ decide (1000 < m) = true)) :
    Calls Try.prog 7 #[.int .i64 n, .int .i64 a, .int .i64 r, .int .i64 m] w fun e w' => e = .returned (.bool true) ∧ Below w.heap.size w w' := by
  rcases h with q1 | ⟨q1, q2⟩ | ⟨q1, q2, q3⟩ | ⟨q1, q2, q3, q4⟩ | ⟨q1, q2, q3, q4, q5⟩ | ⟨q1, q2, q3, q4, q5, q6⟩ | ⟨q1, q2, q3, q4, q5, q6, q7⟩ | ⟨q1, q2, q3, q4, q5, q6, q7, q8⟩
  all_goals
    go_enter Try.func7, Try.ntmps7
    go_wp2_with (go_at_call 8; refine (works_any _).mono ?_; rintro e w1 ⟨rfl, hb⟩)
    go_ret
    exact ⟨rfl, hb⟩

/-- The clock of group 5 behind i that went. -/
def f5 (i : Nat) : Int → Int := fun j => if j = 5 then i else 0
theorem f5_zero : f5 0 = fun _ => 0 := by
  funext j; simp [f5]
theorem f5_up (i : Nat) : up (f5 i) 5 = f5 (i + 1) := by
  funext j
  simp only [up, f5]
  by_cases h : j = 5
  · subst h; simp
  · simp [h]
theorem f5_upto (i : Nat) : Upto (f5 i) i := by
  intro j
  simp only [f5]
  split <;> omega
theorem f5_went (i : Nat) : wentX (f5 i) 5 = mkS 5 i := by
  rw [wentX_in _ (by omega) (by omega)]
  rfl
def seen (a : Int) (i : Nat) : Nat := if a < i then mkS 5 a else 0

set_option maxRecDepth 100000 in
set_option maxHeartbeats 8000000 in
theorem near_in (n a r m : Int) (w : World) (n0 : 1 ≤ n) (n1 : n ≤ 60) (a0 : 0 ≤ a) (a1 : a < n) (r0 : 0 ≤ r) (r1 : r ≤ 1000) (m0 : 0 ≤ m) (m1 : m ≤ 1000) :
    Calls Try.prog 7 #[.int .i64 n, .int .i64 a, .int .i64 r, .int .i64 m] w fun e w' => e = .returned (.bool true) ∧ Below w.heap.size w w' := by
  have d1 : decide (n < 1) = false := by simp; omega
  have d2 : decide (60 < n) = false := by simp; omega
  have d3 : decide (a < 0) = false := by simp; omega
  have d4 : decide (n ≤ a) = false := by simp; omega
  have d5 : decide (r < 0) = false := by simp; omega
  have d6 : decide (1000 < r) = false := by simp; omega
  have d7 : decide (m < 0) = false := by simp; omega
  have d8 : decide (1000 < m) = false := by simp; omega
  obtain ⟨N, rfl⟩ := Int.eq_ofNat_of_zero_le (show 0 ≤ n by omega)
  go_enter Try.func7, Try.ntmps7
  go_wp2_with fail
  refine (works_any _).mono ?_
  rintro e w1 ⟨rfl, hb1⟩
  go_wp2_with fail
  refine (newL hb1).mono ?_
  rintro e w2 ⟨c, rfl, h2, -⟩
  clear hb1
  go_wp2_with fail
  go_loopw [11, 12, 13] (fun s11 s12 _ wr => ∃ i : Nat, i ≤ N ∧ s12 = .int .i64 i ∧ s11 = .int .u64 (seen a i) ∧ Lg w wr c (f5 i) (fun _ => 0)) (fun _ s12 _ _ => N - (intOf s12).toNat)
  case atStart => exact ⟨0, by omega, rfl, by have : seen a 0 = 0 := by simp [seen]; omega
                                              rw [this]; rfl, by rw [f5_zero]; exact h2⟩
  case round =>
    clear h2
    obtain ⟨i, hi, rfl, rfl, hL⟩ := hrel
    by_cases hlt : i < N
    · have d0 : decide ((i : Int) < (N : Int)) = true := by simp; omega
      have C := wentL hL (f5_upto i) (by omega) 5
      rw [f5_went, f5_up] at C
      have hX : a = i → seen a (i + 1) = mkS 5 i := by intro h; subst h; rw [seen, if_pos (by omega)]
      have hY : a ≠ i → seen a (i + 1) = seen a i := by
        intro h
        simp only [seen]
        by_cases h1 : a < i
        · rw [if_pos h1, if_pos (by omega)]
        · rw [if_neg h1, if_neg (by omega)]
      have HX : Hid (a = i → seen a (i + 1) = mkS 5 i) := hX
      have HY : Hid (a ≠ i → seen a (i + 1) = seen a i) := hY
      obtain ⟨X, hXe⟩ : ∃ X, X = mkS 5 i := ⟨_, rfl⟩
      obtain ⟨Z, hZ⟩ : ∃ Z, Z = seen a i := ⟨_, rfl⟩
      rw [← hXe] at C HX
      rw [← hZ] at HY
      rw [← hZ]
      clear hXe hZ hX hY hL
      by_cases he : a = i
      · have e1 := HX.out he
        have d9 : ((i : Int) == a) = true := by simp; omega
        have HE : Hid (seen a (i + 1) = X) := e1
        clear e1 HX HY he
        go_wp2_with fail
        refine C.mono ?_
        rintro e w4 ⟨rfl, h4, -⟩
        clear C
        go_wp2_with fail
        refine ⟨⟨i + 1, by omega, by go_num, by rw [HE.out], h4⟩, by simp [intOf]; omega⟩
      · have e1 := HY.out he
        have d9 : ((i : Int) == a) = false := by simp; omega
        have HE : Hid (seen a (i + 1) = Z) := e1
        clear e1 HX HY he
        go_wp2_with fail
        refine C.mono ?_
        rintro e w4 ⟨rfl, h4, -⟩
        clear C
        go_wp2_with fail
        refine ⟨⟨i + 1, by omega, by go_num, by rw [HE.out], h4⟩, by simp [intOf]; omega⟩
    · obtain rfl : i = N := by omega
      have d0 : decide ((i : Int) < (i : Int)) = false := by simp
      have hx : seen a i = mkS 5 a := by simp [seen, a1]
      rw [hx]
      clear hx
      have hX := mkS_lt 5 a
      have q1 : cameB (f5 i) (mkS 5 a) r = decide ((i : Int) - a ≤ r) := came_near r (by omega) (by omega) a0 (by omega) (by omega) (by simp [f5])
      have q2 : cameB (f5 i) (mkS 5 a) (r + m) = decide ((i : Int) - a ≤ r + m) := came_near (r + m) (by omega) (by omega) a0 (by omega) (by omega) (by simp [f5])
      have C1 := cameL hL (f5_upto i) upto_zero (by omega) (by omega) (mkS 5 a) 7 r (by omega)
      have e1 : ofG (cameF (f5 i) (fun _ => 0) (mkS 5 a) 7 r) 7 = if (i : Int) - a ≤ r then 1 else 0 := by
        rw [ofG_in _ (by omega) (by omega), cameF, q1]
        by_cases h : (i : Int) - a ≤ r
        · rw [if_pos (by simpa using h), if_pos h, up_self _ (by omega) (by omega)]; rfl
        · rw [if_neg (by simpa using h), if_neg h]
      obtain ⟨k1, hk1⟩ : ∃ k1, k1 = cameF (f5 i) (fun _ => 0) (mkS 5 a) 7 r := ⟨_, rfl⟩
      have hu1 : Upto k1 1 := by rw [hk1]; exact upto_zero.came _ _ _ _
      rw [← hk1] at C1 e1
      rw [q1] at C1
      clear hk1 q1 hL
      obtain ⟨X, hXe⟩ : ∃ X, X = mkS 5 a := ⟨_, rfl⟩
      rw [← hXe] at hX q2 C1
      rw [← hXe]
      clear hXe
      have HF : Hid (Upto (f5 i) i) := f5_upto i
      have HU : Hid (Upto k1 1) := hu1
      have HX : Hid (X < 562949953421312) := hX
      have HQ : Hid (cameB (f5 i) X (r + m) = decide ((i : Int) - a ≤ r + m)) := q2
      have HO : Hid (ofG k1 7 = if (i : Int) - a ≤ r then 1 else 0) := e1
      have HC1 : Hid (Calls Try.prog 20 #[.pointer (some ⟨c, 0, none⟩), .int .u64 X, .int .i64 7, .int .i64 r] wr fun e w' => e = .returned (.bool (decide ((i : Int) - a ≤ r))) ∧ Lg w w' c (f5 i) k1 ∧ Apart c wr w') := C1
      clear C1 e1 q2 hX hu1
      by_cases p1 : (i : Int) - a ≤ r
      · have p2 : (i : Int) - a ≤ r + m := by omega
        rw [decide_eq_true p1] at HC1
        rw [decide_eq_true p2] at HQ
        rw [if_pos p1] at HO
        have s1 : decide ((i : Int) - a ≤ r) = true := decide_eq_true p1
        have s2 : decide ((i : Int) - a ≤ r + m) = true := decide_eq_true p2
        go_wp2_with fail
        refine HC1.out.mono ?_
        rintro e w5 ⟨rfl, h5, -⟩
        go_wp2_with fail
        refine (backL h5 7).mono ?_
        rintro e w6 ⟨rfl, rfl⟩
        rw [HO.out]
        go_wp2_with fail
        refine (cameL h5 HF.out HU.out (by omega) (by omega) X 7 (r + m) (by have := HX.out; omega)).mono ?_
        rintro e w7 ⟨rfl, h7, -⟩
        rw [HQ.out]
        have HB : Hid (Below w.heap.size w w7) := h7.bel
        clear h7 h5 HC1 HQ HO
        go_wp2_with fail
        go_ret
        exact ⟨rfl, HB.out⟩
      · have s1 : decide ((i : Int) - a ≤ r) = false := decide_eq_false p1
        rw [s1] at HC1
        rw [if_neg p1] at HO
        cases s2 : decide ((i : Int) - a ≤ r + m) with
        | false =>
          rw [s2] at HQ
          clear p1
          go_wp2_with fail
          refine HC1.out.mono ?_
          rintro e w5 ⟨rfl, h5, -⟩
          go_wp2_with fail
          refine (backL h5 7).mono ?_
          rintro e w6 ⟨rfl, rfl⟩
          rw [HO.out]
          go_wp2_with fail
          refine (cameL h5 HF.out HU.out (by omega) (by omega) X 7 (r + m) (by have := HX.out; omega)).mono ?_
          rintro e w7 ⟨rfl, h7, -⟩
          rw [HQ.out]
          have HB : Hid (Below w.heap.size w w7) := h7.bel
          clear h7 h5 HC1 HQ HO
          go_wp2_with fail
          go_ret
          exact ⟨rfl, HB.out⟩
        | true =>
          rw [s2] at HQ
          clear p1
          go_wp2_with fail
          refine HC1.out.mono ?_
          rintro e w5 ⟨rfl, h5, -⟩
          go_wp2_with fail
          refine (backL h5 7).mono ?_
          rintro e w6 ⟨rfl, rfl⟩
          rw [HO.out]
          go_wp2_with fail
          refine (cameL h5 HF.out HU.out (by omega) (by omega) X 7 (r + m) (by have := HX.out; omega)).mono ?_
          rintro e w7 ⟨rfl, h7, -⟩
          rw [HQ.out]
          have HB : Hid (Below w.heap.size w w7) := h7.bel
          clear h7 h5 HC1 HQ HO
          go_wp2_with fail
          go_ret
          exact ⟨rfl, HB.out⟩

theorem near_walk (n a r m : Int) (w : World) :
    Calls Try.prog 7 #[.int .i64 n, .int .i64 a, .int .i64 r, .int .i64 m] w fun e w' => e = .returned (.bool true) ∧ Below w.heap.size w w' := by
  by_cases h : 1 ≤ n ∧ n ≤ 60 ∧ 0 ≤ a ∧ a < n ∧ 0 ≤ r ∧ r ≤ 1000 ∧ 0 ≤ m ∧ m ≤ 1000
  · obtain ⟨h1, h2, h3, h4, h5, h6, h7, h8⟩ := h
    exact near_in n a r m w h1 h2 h3 h4 h5 h6 h7 h8
  · exact near_out n a r m w (by simp only [decide_eq_true_eq, decide_eq_false_iff_not]; omega)
end Go.Proofs.Ytgnobaenlcbfjaa
