/-
  ControlKilo, walked.
-/
import Derived.Test.YtbkeoaombhhdiaaDoorWorks
namespace Go.Proofs.YtbkeoaombhhdiaaDoor
open Go.RowKit

theorem dg_last {n : Nat} {c : UInt8} (h : (dg n).getLast? = some c) : isD c = true := dg_isD n c (List.mem_of_getLast? h)
theorem dg_last_not {n : Nat} {c : UInt8} (h : isD c = false) : (dg n).getLast? ≠ some c := fun e => by
  rw [dg_last e] at h
  cases h
theorem dg_not_max (n : Nat) : dg n ≠ tMax := fun e => by
  have := dg_last (n := n) (c := 120) (by rw [e]; rfl)
  revert this
  decide
theorem dg_isDgB (n : Nat) : isDgB (dg n) = true := (isDgB_iff _).2 (dg_isDg n)
theorem last_app (T : Bs) (c : UInt8) : (T ++ [c]).getLast? = some c ∧ (T ++ [c]).dropLast = T := by simp
theorem limN_kilo {n : Nat} (h : n ≤ 1073741824) : limN (dg n ++ [75]) = some (n * 1024) := by
  obtain ⟨h1, h2⟩ := last_app (dg n) 75
  unfold limN
  rw [if_neg, if_pos h1, h2, lim1_yes (dg_isDgB n) (by rw [val_dg]; exact h), val_dg]
  · rfl
  · intro e
    rw [e] at h1
    revert h1
    decide
theorem shw_nat (m : Nat) : shw m = if m = 1099511627776 then tMax else dg m := by
  unfold shw dgI
  by_cases h : m = 1099511627776
  · rw [if_pos (by omega), if_pos h]
  · rw [if_neg (by omega), if_neg h, if_neg (by omega)]
    rfl
theorem limN_shw {m : Nat} (h : m ≤ 1099511627776) : limN (shw m) = some m := by
  rw [shw_nat]
  by_cases hm : m = 1099511627776
  · rw [if_pos hm, hm]
    rfl
  · rw [if_neg hm]
    unfold limN
    rw [if_neg (dg_not_max m), if_neg (dg_last_not (by decide)), lim1_yes (dg_isDgB m) (by rw [val_dg]; exact h), val_dg]
theorem nl_shw (m : Nat) : nl (shw m) = shw m := by
  unfold nl
  rw [if_neg]
  rw [shw_nat]
  by_cases hm : m = 1099511627776
  · rw [if_pos hm]
    decide
  · rw [if_neg hm]
    exact dg_last_not (by decide)
theorem nl_line (T : Bs) : nl (T ++ [10]) = T := by
  obtain ⟨h1, h2⟩ := last_app T 10
  unfold nl
  rw [if_pos h1, h2]
theorem nl_kilo (T : Bs) : nl (T ++ [75]) = T ++ [75] := by
  obtain ⟨h1, -⟩ := last_app T 75
  unfold nl
  rw [if_neg]
  rw [h1]
  decide
theorem shw_one {m : Nat} : shw m = [48] ↔ m = 0 := by
  rw [shw_nat]
  by_cases hm : m = 1099511627776
  · rw [if_pos hm, hm]
    exact ⟨fun h => absurd h (by decide), fun h => absurd h (by decide)⟩
  · rw [if_neg hm]
    constructor
    · intro h
      have := congrArg val h
      rw [val_dg] at this
      exact this
    · rintro rfl
      rfl
theorem shw_two {m : Nat} : shw m = [49] ↔ m = 1 := by
  rw [shw_nat]
  by_cases hm : m = 1099511627776
  · rw [if_pos hm, hm]
    exact ⟨fun h => absurd h (by decide), fun h => absurd h (by decide)⟩
  · rw [if_neg hm]
    constructor
    · intro h
      have := congrArg val h
      rw [val_dg] at this
      exact this
    · rintro rfl
      rfl
/-- What a limit's text is read as, by the file. -/
theorem rd_shw (F T : Bs) (m : Nat) (hm : m ≤ 1099511627776) (h : nl T = shw m) : rd F T = if fileI F = -1 then (-1, 0, 2) else if fileI F = 4 then (if m = 0 then (4, 0, 0) else if m = 1 then (4, 1, 0) else (-1, 0, 20)) else (fileI F, (m : Int), 0) := by
  unfold rd
  rw [h, limN_shw hm]
  by_cases h1 : fileI F = -1
  · rw [if_pos h1, if_pos h1]
  rw [if_neg h1, if_neg h1]
  by_cases h4 : fileI F = 4
  · rw [if_pos h4, if_pos h4]
    by_cases h48 : m = 0
    · rw [if_pos (shw_one.2 h48), if_pos h48]
    · rw [if_neg (fun e => h48 (shw_one.1 e)), if_neg h48]
      by_cases h49 : m = 1
      · rw [if_pos (shw_two.2 h49), if_pos h49]
      · rw [if_neg (fun e => h49 (shw_two.1 e)), if_neg h49]
  · rw [if_neg h4, if_neg h4]
theorem rd_kilo (F : Bs) (n : Nat) (hn : n ≤ 1073741824) : rd F (dg n ++ [75]) = if fileI F = -1 then (-1, 0, 2) else if fileI F = 4 then (-1, 0, 20) else (fileI F, ((n * 1024 : Nat) : Int), 0) := by
  unfold rd
  rw [nl_kilo, limN_kilo hn]
  by_cases h1 : fileI F = -1
  · rw [if_pos h1, if_pos h1]
  rw [if_neg h1, if_neg h1]
  by_cases h4 : fileI F = 4
  · rw [if_pos h4, if_pos h4, if_neg, if_neg]
    · intro e
      have := congrArg List.getLast? e
      rw [(last_app _ _).1] at this
      revert this
      decide
    · intro e
      have := congrArg List.getLast? e
      rw [(last_app _ _).1] at this
      revert this
      decide
  · rw [if_neg h4, if_neg h4]
theorem file_oom (s : ByteArray) : (s.toList == tOom) = decide (fileI s.data.toList = 4) := by
  rcases five s with ⟨hf, -, -, -, -, h⟩ | ⟨hf, -, -, -, -, h⟩ | ⟨hf, -, -, -, -, h⟩ | ⟨hf, -, -, -, -, h⟩ | ⟨hf, -, -, -, -, h⟩ | ⟨hf, -, -, -, -, h⟩
  all_goals rw [hf]
  all_goals rw [ss] at h
  all_goals rw [sm, h]
  all_goals rfl

/-- A number, and a string's end put behind it. -/
theorem str_app (T : Bs) (c : UInt8) : (str T ++ (⟨#[c]⟩ : ByteArray)).data.toList = T ++ [c] := by
  rw [dat_append]
theorem shw_len {m : Nat} (h : m ≤ 1099511627776) : (shw m).length ≤ 20 := by
  rw [shw_nat]
  split
  · decide
  · have := dg_len (n := m) (by omega)
    omega
set_option maxRecDepth 100000 in
set_option maxHeartbeats 4000000 in
theorem kilo_walk (n : Int) (file : ByteArray) (w : World) (ht : Tabs w) (hn : i64 n) (_hz : file.size ≤ maxLen) :
    Calls Tryd.prog 6 #[.int .i64 n, .string file] w fun e w' => e = .returned (.bool true) ∧ Below w.heap.size w w' := by
  have HT : Hid (Tabs w) := ht
  clear ht
  by_cases h0 : n < 0
  · go_enter Tryd.func6, Tryd.ntmps6
    go_wp2_with (go_at_call 9; refine (works_any _ HT.out).mono ?_; rintro e w1 ⟨rfl, hb1⟩)
    go_ret
    exact ⟨rfl, hb1⟩
  by_cases h1 : 1073741824 < n
  · go_enter Tryd.func6, Tryd.ntmps6
    go_wp2_with (go_at_call 9; refine (works_any _ HT.out).mono ?_; rintro e w1 ⟨rfl, hb1⟩)
    go_ret
    exact ⟨rfl, hb1⟩
  obtain ⟨m, rfl⟩ := Int.eq_ofNat_of_zero_le (show 0 ≤ n by omega)
  have hm : m ≤ 1073741824 := by omega
  have hsd : shw (m : Int) = dg m := by rw [shw_nat, if_neg (by omega)]
  have l1 : (dg m).length ≤ 20 := by rw [← hsd]; exact shw_len (by omega)
  have l2 : (shw ((1024 * m : Nat) : Int)).length ≤ 20 := shw_len (by omega)
  obtain ⟨sh2, hsh2⟩ : ∃ sh2, shw ((1024 * m : Nat) : Int) = sh2 := ⟨_, rfl⟩
  have HS1 : Hid (∀ w, Tabs w → Calls Tryd.prog 12 #[.int .i64 (m : Int)] w fun e w' => e = .returned (.string (str (dg m))) ∧ Below w.heap.size w w') := fun w h => by
    have := pshow m hn w h
    rwa [hsd] at this
  have HS2 : Hid (∀ w, Tabs w → Calls Tryd.prog 12 #[.int .i64 (1024 * (m : Int))] w fun e w' => e = .returned (.string (str sh2)) ∧ Below w.heap.size w w') := fun w h => by
    have := pshow ((1024 * m : Nat) : Int) ⟨by omega, by omega⟩ w h
    rw [hsh2] at this
    exact this
  have HA0 : Hid (∀ w, Tabs w → Calls Tryd.prog 10 #[.string file, .string (str (dg m) ++ (⟨#[75]⟩ : ByteArray))] w fun e w' => e = three (rd file.data.toList (dg m ++ [75])) ∧ Below w.heap.size w w') := fun w h => by
    have := pread file (str (dg m) ++ (⟨#[75]⟩ : ByteArray)) w (by
      rw [ByteArray.size_append]
      have e : (str (dg m)).size = (dg m).length := rfl
      have e1 : (⟨#[75]⟩ : ByteArray).size = 1 := rfl
      unfold maxLen
      omega) h
    rwa [str_app] at this
  have HB0 : Hid (∀ w, Tabs w → Calls Tryd.prog 10 #[.string file, .string (str sh2)] w fun e w' => e = three (rd file.data.toList sh2) ∧ Below w.heap.size w w') := fun w h => by
    refine pread file (str sh2) w ?_ h
    have e : (str sh2).size = sh2.length := rfl
    unfold maxLen
    rw [hsh2] at l2
    omega
  have HC0 : Hid (∀ w, Tabs w → Calls Tryd.prog 10 #[.string file, .string (str sh2 ++ (⟨#[10]⟩ : ByteArray))] w fun e w' => e = three (rd file.data.toList (sh2 ++ [10])) ∧ Below w.heap.size w w') := fun w h => by
    have := pread file (str sh2 ++ (⟨#[10]⟩ : ByteArray)) w (by
      rw [ByteArray.size_append]
      have e : (str sh2).size = sh2.length := rfl
      have e1 : (⟨#[10]⟩ : ByteArray).size = 1 := rfl
      rw [hsh2] at l2
      unfold maxLen
      omega) h
    rwa [str_app] at this
  have hsl : sh2.length ≤ 20 := by rw [← hsh2]; exact l2
  have ra := rd_kilo file.data.toList m hm
  have rb := rd_shw file.data.toList sh2 (1024 * m) (by omega) (by rw [← hsh2]; exact nl_shw _)
  have rc := rd_shw file.data.toList (sh2 ++ [10]) (1024 * m) (by omega) (by rw [← hsh2]; exact nl_line _)
  have ho := file_oom file
  obtain ⟨f, hf⟩ : ∃ f, fileI file.data.toList = f := ⟨_, rfl⟩
  have hfr := file_range file.data.toList
  rw [hf] at ra rb rc ho hfr
  simp only [tOom] at ho
  clear hsd hsh2 l2 hf hn
  by_cases f1 : f = -1
  · have HA : Hid (∀ w, Tabs w → Calls Tryd.prog 10 #[.string file, .string (str (dg m) ++ (⟨#[75]⟩ : ByteArray))] w fun e w' => e = .returned (.tuple #[.int .i64 (-1), .int .i64 0, .int .i64 2]) ∧ Below w.heap.size w w') := fun w h => by
      have := HA0.out w h
      rwa [ra, if_pos f1] at this
    have HB : Hid (∀ w, Tabs w → Calls Tryd.prog 10 #[.string file, .string (str sh2)] w fun e w' => e = .returned (.tuple #[.int .i64 (-1), .int .i64 0, .int .i64 2]) ∧ Below w.heap.size w w') := fun w h => by
      have := HB0.out w h
      rwa [rb, if_pos f1] at this
    have HC : Hid (∀ w, Tabs w → Calls Tryd.prog 10 #[.string file, .string (str sh2 ++ (⟨#[10]⟩ : ByteArray))] w fun e w' => e = .returned (.tuple #[.int .i64 (-1), .int .i64 0, .int .i64 2]) ∧ Below w.heap.size w w') := fun w h => by
      have := HC0.out w h
      rwa [rc, if_pos f1] at this
    have ho' : (file.toList == [109, 101, 109, 111, 114, 121, 46, 111, 111, 109, 46, 103, 114, 111, 117, 112]) = false := by
      rw [ho, f1]
      rfl
    clear ra rb rc ho hfr f1
    go_enter Tryd.func6, Tryd.ntmps6
    go_wp2_with (go_at_call 9; refine (works_any _ HT.out).mono ?_; rintro e w1 ⟨rfl, hb1⟩)
    refine (HS1.out _ (HT.out.below hb1)).mono ?_
    rintro e w2 ⟨rfl, hb2⟩
    have hb2' := hb1.trans (hb2.mono hb1.size)
    clear hb1 hb2
    go_wp2_with fail
    refine (HA.out _ (HT.out.below hb2')).mono ?_
    rintro e w3 ⟨rfl, hb3⟩
    have hb3' := hb2'.trans (hb3.mono hb2'.size)
    clear hb2' hb3
    go_wp2_with fail
    refine (HS2.out _ (HT.out.below hb3')).mono ?_
    rintro e w4 ⟨rfl, hb4⟩
    have hb4' := hb3'.trans (hb4.mono hb3'.size)
    clear hb3' hb4
    go_wp2_with fail
    refine (HB.out _ (HT.out.below hb4')).mono ?_
    rintro e w5 ⟨rfl, hb5⟩
    have hb5' := hb4'.trans (hb5.mono hb4'.size)
    clear hb4' hb5
    go_wp2_with fail
    refine (HS2.out _ (HT.out.below hb5')).mono ?_
    rintro e w6 ⟨rfl, hb6⟩
    have hb6' := hb5'.trans (hb6.mono hb5'.size)
    clear hb5' hb6
    go_wp2_with fail
    refine (HC.out _ (HT.out.below hb6')).mono ?_
    rintro e w7 ⟨rfl, hb7⟩
    have hb7' := hb6'.trans (hb7.mono hb6'.size)
    clear hb6' hb7
    go_wp2_with fail
    go_ret
    exact ⟨rfl, hb7'⟩
  · by_cases f4 : f = 4
    · have ho' : (file.toList == [109, 101, 109, 111, 114, 121, 46, 111, 111, 109, 46, 103, 114, 111, 117, 112]) = true := by
        rw [ho, f4]
        rfl
      have HA : Hid (∀ w, Tabs w → Calls Tryd.prog 10 #[.string file, .string (str (dg m) ++ (⟨#[75]⟩ : ByteArray))] w fun e w' => e = .returned (.tuple #[.int .i64 (-1), .int .i64 0, .int .i64 20]) ∧ Below w.heap.size w w') := fun w h => by
        have := HA0.out w h
        rwa [ra, if_neg f1, if_pos f4] at this
      by_cases hm0 : m = 0
      · have HB : Hid (∀ w, Tabs w → Calls Tryd.prog 10 #[.string file, .string (str sh2)] w fun e w' => e = .returned (.tuple #[.int .i64 4, .int .i64 0, .int .i64 0]) ∧ Below w.heap.size w w') := fun w h => by
          have := HB0.out w h
          rwa [rb, if_neg f1, if_pos f4, if_pos (by omega)] at this
        have HC : Hid (∀ w, Tabs w → Calls Tryd.prog 10 #[.string file, .string (str sh2 ++ (⟨#[10]⟩ : ByteArray))] w fun e w' => e = .returned (.tuple #[.int .i64 4, .int .i64 0, .int .i64 0]) ∧ Below w.heap.size w w') := fun w h => by
          have := HC0.out w h
          rwa [rc, if_neg f1, if_pos f4, if_pos (by omega)] at this
        have hm0' : ((m : Int) == 0) = true := by simpa using hm0
        clear ra rb rc ho hfr f1 f4 hm0
        go_enter Tryd.func6, Tryd.ntmps6
        go_wp2_with (go_at_call 9; refine (works_any _ HT.out).mono ?_; rintro e w1 ⟨rfl, hb1⟩)
        refine (HS1.out _ (HT.out.below hb1)).mono ?_
        rintro e w2 ⟨rfl, hb2⟩
        have hb2' := hb1.trans (hb2.mono hb1.size)
        clear hb1 hb2
        go_wp2_with fail
        refine (HA.out _ (HT.out.below hb2')).mono ?_
        rintro e w3 ⟨rfl, hb3⟩
        have hb3' := hb2'.trans (hb3.mono hb2'.size)
        clear hb2' hb3
        go_wp2_with fail
        refine (HS2.out _ (HT.out.below hb3')).mono ?_
        rintro e w4 ⟨rfl, hb4⟩
        have hb4' := hb3'.trans (hb4.mono hb3'.size)
        clear hb3' hb4
        go_wp2_with fail
        refine (HB.out _ (HT.out.below hb4')).mono ?_
        rintro e w5 ⟨rfl, hb5⟩
        have hb5' := hb4'.trans (hb5.mono hb4'.size)
        clear hb4' hb5
        go_wp2_with fail
        refine (HS2.out _ (HT.out.below hb5')).mono ?_
        rintro e w6 ⟨rfl, hb6⟩
        have hb6' := hb5'.trans (hb6.mono hb5'.size)
        clear hb5' hb6
        go_wp2_with fail
        refine (HC.out _ (HT.out.below hb6')).mono ?_
        rintro e w7 ⟨rfl, hb7⟩
        have hb7' := hb6'.trans (hb7.mono hb6'.size)
        clear hb6' hb7
        go_wp2_with fail
        go_ret
        exact ⟨rfl, hb7'⟩
      · have HB : Hid (∀ w, Tabs w → Calls Tryd.prog 10 #[.string file, .string (str sh2)] w fun e w' => e = .returned (.tuple #[.int .i64 (-1), .int .i64 0, .int .i64 20]) ∧ Below w.heap.size w w') := fun w h => by
          have := HB0.out w h
          rwa [rb, if_neg f1, if_pos f4, if_neg (by omega), if_neg (by omega)] at this
        have HC : Hid (∀ w, Tabs w → Calls Tryd.prog 10 #[.string file, .string (str sh2 ++ (⟨#[10]⟩ : ByteArray))] w fun e w' => e = .returned (.tuple #[.int .i64 (-1), .int .i64 0, .int .i64 20]) ∧ Below w.heap.size w w') := fun w h => by
          have := HC0.out w h
          rwa [rc, if_neg f1, if_pos f4, if_neg (by omega), if_neg (by omega)] at this
        have hm0' : ((m : Int) == 0) = false := by simpa using hm0
        clear ra rb rc ho hfr f1 f4 hm0
        go_enter Tryd.func6, Tryd.ntmps6
        go_wp2_with (go_at_call 9; refine (works_any _ HT.out).mono ?_; rintro e w1 ⟨rfl, hb1⟩)
        refine (HS1.out _ (HT.out.below hb1)).mono ?_
        rintro e w2 ⟨rfl, hb2⟩
        have hb2' := hb1.trans (hb2.mono hb1.size)
        clear hb1 hb2
        go_wp2_with fail
        refine (HA.out _ (HT.out.below hb2')).mono ?_
        rintro e w3 ⟨rfl, hb3⟩
        have hb3' := hb2'.trans (hb3.mono hb2'.size)
        clear hb2' hb3
        go_wp2_with fail
        refine (HS2.out _ (HT.out.below hb3')).mono ?_
        rintro e w4 ⟨rfl, hb4⟩
        have hb4' := hb3'.trans (hb4.mono hb3'.size)
        clear hb3' hb4
        go_wp2_with fail
        refine (HB.out _ (HT.out.below hb4')).mono ?_
        rintro e w5 ⟨rfl, hb5⟩
        have hb5' := hb4'.trans (hb5.mono hb4'.size)
        clear hb4' hb5
        go_wp2_with fail
        refine (HS2.out _ (HT.out.below hb5')).mono ?_
        rintro e w6 ⟨rfl, hb6⟩
        have hb6' := hb5'.trans (hb6.mono hb5'.size)
        clear hb5' hb6
        go_wp2_with fail
        refine (HC.out _ (HT.out.below hb6')).mono ?_
        rintro e w7 ⟨rfl, hb7⟩
        have hb7' := hb6'.trans (hb7.mono hb6'.size)
        clear hb6' hb7
        go_wp2_with fail
        go_ret
        exact ⟨rfl, hb7'⟩
    · have ho' : (file.toList == [109, 101, 109, 111, 114, 121, 46, 111, 111, 109, 46, 103, 114, 111, 117, 112]) = false := by
        rw [ho]
        simpa using f4
      have HA : Hid (∀ w, Tabs w → Calls Tryd.prog 10 #[.string file, .string (str (dg m) ++ (⟨#[75]⟩ : ByteArray))] w fun e w' => e = .returned (.tuple #[.int .i64 f, .int .i64 (1024 * (m : Int)), .int .i64 0]) ∧ Below w.heap.size w w') := fun w h => by
        have := HA0.out w h
        rw [ra, if_neg f1, if_neg f4, Nat.mul_comm] at this
        exact this
      have HB : Hid (∀ w, Tabs w → Calls Tryd.prog 10 #[.string file, .string (str sh2)] w fun e w' => e = .returned (.tuple #[.int .i64 f, .int .i64 (1024 * (m : Int)), .int .i64 0]) ∧ Below w.heap.size w w') := fun w h => by
        have := HB0.out w h
        rw [rb, if_neg f1, if_neg f4] at this
        exact this
      have HC : Hid (∀ w, Tabs w → Calls Tryd.prog 10 #[.string file, .string (str sh2 ++ (⟨#[10]⟩ : ByteArray))] w fun e w' => e = .returned (.tuple #[.int .i64 f, .int .i64 (1024 * (m : Int)), .int .i64 0]) ∧ Below w.heap.size w w') := fun w h => by
        have := HC0.out w h
        rw [rc, if_neg f1, if_neg f4] at this
        exact this
      clear ra rb rc ho hfr f1 f4
      go_enter Tryd.func6, Tryd.ntmps6
      go_wp2_with (go_at_call 9; refine (works_any _ HT.out).mono ?_; rintro e w1 ⟨rfl, hb1⟩)
      refine (HS1.out _ (HT.out.below hb1)).mono ?_
      rintro e w2 ⟨rfl, hb2⟩
      have hb2' := hb1.trans (hb2.mono hb1.size)
      clear hb1 hb2
      go_wp2_with fail
      refine (HA.out _ (HT.out.below hb2')).mono ?_
      rintro e w3 ⟨rfl, hb3⟩
      have hb3' := hb2'.trans (hb3.mono hb2'.size)
      clear hb2' hb3
      go_wp2_with fail
      refine (HS2.out _ (HT.out.below hb3')).mono ?_
      rintro e w4 ⟨rfl, hb4⟩
      have hb4' := hb3'.trans (hb4.mono hb3'.size)
      clear hb3' hb4
      go_wp2_with fail
      refine (HB.out _ (HT.out.below hb4')).mono ?_
      rintro e w5 ⟨rfl, hb5⟩
      have hb5' := hb4'.trans (hb5.mono hb4'.size)
      clear hb4' hb5
      go_wp2_with fail
      refine (HS2.out _ (HT.out.below hb5')).mono ?_
      rintro e w6 ⟨rfl, hb6⟩
      have hb6' := hb5'.trans (hb6.mono hb5'.size)
      clear hb5' hb6
      go_wp2_with fail
      refine (HC.out _ (HT.out.below hb6')).mono ?_
      rintro e w7 ⟨rfl, hb7⟩
      have hb7' := hb6'.trans (hb7.mono hb6'.size)
      clear hb6' hb7
      go_wp2_with fail
      go_ret
      exact ⟨rfl, hb7'⟩
end Go.Proofs.YtbkeoaombhhdiaaDoor
