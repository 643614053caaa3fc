/-
  ControlWords, walked.
-/
import Derived.Test.YtbkeoaombhhdiaaDoorWorks
namespace Go.Proofs.YtbkeoaombhhdiaaDoor
open Go.RowKit

theorem conv_byte (w : World) (b : UInt8) : (convert 42 9 (.slice (some ⟨w.heap.size, 0, Option.none⟩) 1 1)).run Tryd.prog (w.alloc (.cells #[.int .u8 (b.toNat : Int)] 5)) = .ok (.string ⟨#[b]⟩) (w.alloc (.cells #[.int .u8 (b.toNat : Int)] 5)) := conv_one w b _ rfl
theorem word_mid (a b : ByteArray) (c : UInt8) (h : wch c = false) : isW (a ++ (⟨#[c]⟩ : ByteArray) ++ b).data.toList = false := by
  rw [dat_append, dat_append]
  exact isW_other h
theorem word_join {a b : ByteArray} (ha : isW a.data.toList = true) (hb : isW b.data.toList = true) : isW (a ++ b).data.toList = decide (((a.size : Int) + (b.size : Int)) ≤ 40) := by
  rw [dat_append, isW_join ha hb]
  have e1 : a.data.toList.length = a.size := by simp
  have e2 : b.data.toList.length = b.size := by simp
  rw [e1, e2]
  exact decide_eq_decide.2 (by omega)
set_option maxRecDepth 100000 in
set_option maxHeartbeats 4000000 in
theorem words_walk (a b : ByteArray) (c : UInt8) (w : World) (ht : Tabs w) (hz1 : a.size ≤ maxLen) (hz2 : b.size ≤ maxLen) :
    Calls Tryd.prog 8 #[.string a, .string b, .int .u8 (c.toNat : Int)] w fun e w' => e = .returned (.bool true) ∧ Below w.heap.size w w' := by
  have HT : Hid (Tabs w) := ht
  unfold maxLen at hz1 hz2
  have HWE : Hid (∀ w, Calls Tryd.prog 21 #[.string ⟨#[]⟩] w fun e w' => e = .returned (.bool false) ∧ w' = w) := fun w => by
    refine (pword ⟨#[]⟩ w (by decide)).mono ?_
    rintro e w' ⟨rfl, rfl⟩
    exact ⟨rfl, rfl⟩
  have hc8 := c.toNat_lt
  clear ht
  by_cases h1 : (120 : Int) < a.size
  · go_enter Tryd.func8, Tryd.ntmps8
    go_wp2_with (go_at_call 9; refine (works_any _ HT.out).mono ?_; rintro e w1 ⟨rfl, hb1⟩)
    go_ret
    exact ⟨rfl, hb1⟩
  by_cases h2 : (120 : Int) < b.size
  · go_enter Tryd.func8, Tryd.ntmps8
    go_wp2_with (go_at_call 9; refine (works_any _ HT.out).mono ?_; rintro e w1 ⟨rfl, hb1⟩)
    go_ret
    exact ⟨rfl, hb1⟩
  have hal : a.size ≤ 120 := by omega
  have hbl : b.size ≤ 120 := by omega
  have HA : Hid (∀ w, Calls Tryd.prog 21 #[.string a] w fun e w' => e = .returned (.bool (isW a.data.toList)) ∧ w' = w) := fun w => pword a w (by unfold maxLen; omega)
  have HB : Hid (∀ w, Calls Tryd.prog 21 #[.string b] w fun e w' => e = .returned (.bool (isW b.data.toList)) ∧ w' = w) := fun w => pword b w (by unfold maxLen; omega)
  have HAB : Hid (isW a.data.toList = true → isW b.data.toList = true → ∀ w, Calls Tryd.prog 21 #[.string (a ++ b)] w fun e w' => e = .returned (.bool (decide (((a.size : Int) + (b.size : Int)) ≤ 40))) ∧ w' = w) := fun k1 k2 w => by
    refine (pword (a ++ b) w (by rw [ByteArray.size_append]; unfold maxLen; omega)).mono ?_
    rintro e w' ⟨rfl, rfl⟩
    exact ⟨by rw [word_join k1 k2], rfl⟩
  have HABC : Hid (wch c = false → ∀ w, Calls Tryd.prog 21 #[.string (a ++ (⟨#[c]⟩ : ByteArray) ++ b)] w fun e w' => e = .returned (.bool false) ∧ w' = w) := fun k w => by
    refine (pword (a ++ (⟨#[c]⟩ : ByteArray) ++ b) w (by
      rw [ByteArray.size_append, ByteArray.size_append]
      have : (⟨#[c]⟩ : ByteArray).size = 1 := rfl
      unfold maxLen
      omega)).mono ?_
    rintro e w' ⟨rfl, rfl⟩
    exact ⟨by rw [word_mid a b c k], rfl⟩
  have hcv : ∀ w : World, (convert 42 9 (.slice (some ⟨w.heap.size, 0, Option.none⟩) 1 1)).run Tryd.prog (w.alloc (.cells #[.int .u8 (c.toNat : Int)] 5)) = .ok (.string ⟨#[c]⟩) (w.alloc (.cells #[.int .u8 (c.toNat : Int)] 5)) := fun w => conv_byte w c
  obtain ⟨j, hj⟩ : ∃ j : Bool, decide (((a.size : Int) + (b.size : Int)) ≤ 40) = j := ⟨_, rfl⟩
  go_enter Tryd.func8, Tryd.ntmps8
  go_wp2_with (go_at_call 9; refine (works_any _ HT.out).mono ?_; rintro e w1 ⟨rfl, hb1⟩)
  refine (HA.out _).mono ?_
  rintro e w2 ⟨rfl, hw2⟩
  rw [hw2]
  clear hw2 w2
  go_wp2_with fail
  refine (HB.out _).mono ?_
  rintro e w2 ⟨rfl, hw2⟩
  rw [hw2]
  clear hw2 w2
  go_upto_region 8 with fail
  go_cut [8, 9, 43] (fun s8 s9 s43 wx => s43 = .bool false ∧ s8 = s8 ∧ s9 = s9 ∧ wx = w1)
  case first =>
    cases ka : isW a.data.toList with
    | false =>
      go_wp2_with fail
      go_meet
      exact ⟨rfl, trivial, trivial, rfl⟩
    | true =>
      cases kb : isW b.data.toList with
      | false =>
        go_wp2_with fail
        go_meet
        exact ⟨rfl, trivial, trivial, rfl⟩
      | true =>
        have HJ := HAB.out ka kb
        rw [hj] at HJ
        have HJ2 : Hid _ := HJ
        clear HJ
        go_wp2_with (go_at_call 21; refine (HJ2.out _).mono ?_; rintro e w2 ⟨rfl, hw2⟩; rw [hw2]; clear hw2 w2)
        go_meet
        exact ⟨rfl, trivial, trivial, rfl⟩
  case rest =>
    obtain ⟨rfl, -, -, rfl⟩ := hcut
    cases hc : wch c with
    | true =>
      have hcc := wch_cases hc
      clear hc HABC
      rcases hcc with ⟨h3, h4⟩ | ⟨h3, h4, h5⟩ | ⟨h3, h4, h5⟩
      · go_wp2_with (go_at_call 21; refine (HWE.out _).mono ?_; rintro e w2 ⟨rfl, hw2⟩; rw [hw2]; clear hw2 w2)
        go_ret
        exact ⟨rfl, hb1⟩
      · go_wp2_with (go_at_call 21; refine (HWE.out _).mono ?_; rintro e w2 ⟨rfl, hw2⟩; rw [hw2]; clear hw2 w2)
        go_ret
        exact ⟨rfl, hb1⟩
      · have h6 : (48 : Int) ≤ c.toNat := by omega
        go_wp2_with (go_at_call 21; refine (HWE.out _).mono ?_; rintro e w2 ⟨rfl, hw2⟩; rw [hw2]; clear hw2 w2)
        go_ret
        exact ⟨rfl, hb1⟩
    | false =>
      have HC : Hid _ := HABC.out hc
      have hcc := wch_none hc
      clear hc HABC
      rcases hcc with ⟨h3, h4⟩ | ⟨h3, h4, h5, h6⟩ | ⟨h3, h4⟩
      · have h7 : ((c.toNat : Int) == 95) = false := by simp; omega
        go_wp2_with fail
        refine (HC.out _).mono ?_
        rintro e w2 ⟨rfl, hw2⟩
        rw [hw2]
        clear hw2 w2
        go_wp2_with fail
        refine (HWE.out _).mono ?_
        rintro e w2 ⟨rfl, hw2⟩
        rw [hw2]
        clear hw2 w2
        go_wp2_with fail
        go_ret
        exact ⟨rfl, hb1.trans (((Below.refl _ _).alloc (Nat.le_refl _) _).mono hb1.size)⟩
      · go_wp2_with fail
        refine (HC.out _).mono ?_
        rintro e w2 ⟨rfl, hw2⟩
        rw [hw2]
        clear hw2 w2
        go_wp2_with fail
        refine (HWE.out _).mono ?_
        rintro e w2 ⟨rfl, hw2⟩
        rw [hw2]
        clear hw2 w2
        go_wp2_with fail
        go_ret
        exact ⟨rfl, hb1.trans (((Below.refl _ _).alloc (Nat.le_refl _) _).mono hb1.size)⟩
      · have h7 : ((c.toNat : Int) == 95) = false := by simp; omega
        have h8 : (48 : Int) ≤ c.toNat := by omega
        have h9 : ¬ (c.toNat : Int) ≤ 57 := by omega
        go_wp2_with fail
        refine (HC.out _).mono ?_
        rintro e w2 ⟨rfl, hw2⟩
        rw [hw2]
        clear hw2 w2
        go_wp2_with fail
        refine (HWE.out _).mono ?_
        rintro e w2 ⟨rfl, hw2⟩
        rw [hw2]
        clear hw2 w2
        go_wp2_with fail
        go_ret
        exact ⟨rfl, hb1.trans (((Below.refl _ _).alloc (Nat.le_refl _) _).mono hb1.size)⟩
end Go.Proofs.YtbkeoaombhhdiaaDoor
