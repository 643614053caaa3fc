/-
  Names: both Words, byte by byte.
-/
import Derived.Test.YtbkeoaombhhdiaaDoorTxt
import Derived.Test.YtbkeoaombhhdiaaDoorUp
import Derived.Test.YtbkeoaombhhdiaaDoorShelf
import Derived.Test.YtbkeoaombhhdiaaDoorRows
import Derived.WalkLawsBesides
namespace Go.Proofs.YtbkeoaombhhdiaaDoor
open Go.RowKit

theorem ret_bool {a b : Bool} (h : a = b) : Ending.returned (.bool a) = .returned (.bool b) := by rw [h]
theorem wch_int (b : UInt8) : wch b = ((decide ((97 : Int) ≤ (b.toNat : Int)) && decide ((b.toNat : Int) ≤ 122)) || ((decide ((48 : Int) ≤ (b.toNat : Int)) && decide ((b.toNat : Int) ≤ 57)) || ((b.toNat : Int) == 95))) := by
  have e1 : ((97 : Int) ≤ (b.toNat : Int)) ↔ 97 ≤ b.toNat := by omega
  have e2 : ((b.toNat : Int) ≤ 122) ↔ b.toNat ≤ 122 := by omega
  have e3 : ((48 : Int) ≤ (b.toNat : Int)) ↔ 48 ≤ b.toNat := by omega
  have e4 : ((b.toNat : Int) ≤ 57) ↔ b.toNat ≤ 57 := by omega
  have e5 : ((b.toNat : Int) == 95) = decide (b.toNat = 95) := by
    rw [Bool.eq_iff_iff]; simp; omega
  unfold wch
  rw [decide_eq_decide.2 e1, decide_eq_decide.2 e2, decide_eq_decide.2 e3, decide_eq_decide.2 e4, e5]
set_option maxRecDepth 100000 in
theorem pin (b : UInt8) (w : World) : Calls Tryd.prog 36 #[.int .u8 (b.toNat : Int)] w fun e w' => e = .returned (.bool (wch b)) ∧ w' = w := by
  have hb := b.toNat_lt
  rw [wch_int]
  go_enter Tryd.func36, Tryd.ntmps36
  by_cases h1 : (97 : Int) ≤ (b.toNat : Int) <;> by_cases h2 : (b.toNat : Int) ≤ 122 <;> by_cases h3 : (48 : Int) ≤ (b.toNat : Int) <;> by_cases h4 : (b.toNat : Int) ≤ 57
  all_goals go_wp2_with fail
  all_goals go_ret
  all_goals refine ⟨ret_bool ?_, rfl⟩
  all_goals first | rfl | (rw [Bool.eq_iff_iff]; simp only [Bool.or_eq_true, Bool.and_eq_true, decide_eq_true_eq, beq_iff_eq, true_iff]; omega)

theorem take_snoc (s : ByteArray) (k : Nat) (h : k < s.size) : s.data.toList.take (k + 1) = s.data.toList.take k ++ [s[k]] := by
  rw [List.take_succ_eq_append_getElem (by simpa using h)]; rfl
/-- The first k bytes may all stand in a name. -/
def upW (s : ByteArray) (k : Nat) : Bool := (s.data.toList.take k).all wch
theorem upW_zero (s : ByteArray) : upW s 0 = true := rfl
theorem upW_snoc {s : ByteArray} {k : Nat} (h : k < s.size) (ha : upW s k = true) (hp : wch s[k] = true) : upW s (k + 1) = true := by
  unfold upW at *
  rw [take_snoc s k h, List.all_append, ha]
  simp [hp]
theorem isW_mid {s : ByteArray} (h1 : 1 ≤ s.size) (h2 : s.size ≤ 40) : isW s.data.toList = s.data.toList.all wch := by
  unfold isW
  have e1 : decide (1 ≤ s.data.toList.length) = true := by simpa using h1
  have e2 : decide (s.data.toList.length ≤ 40) = true := by simpa using h2
  rw [e1, e2]
  simp
theorem isW_not {s : ByteArray} {k : Nat} (h : k < s.size) (hp : wch s[k] = false) : isW s.data.toList = false := by
  have ha : s.data.toList.all wch = false := by
    rw [Bool.eq_false_iff]
    intro ha
    have := List.all_eq_true.1 ha s[k] (by
      have e : s[k] = s.data.toList[k]'(by simpa using h) := rfl
      rw [e]
      exact List.getElem_mem _)
    rw [hp] at this
    cases this
  unfold isW
  rw [ha]
  rfl
theorem isW_end {s : ByteArray} (h1 : 1 ≤ s.size) (h2 : s.size ≤ 40) (h : upW s s.size = true) : isW s.data.toList = true := by
  rw [isW_mid h1 h2]
  unfold upW at h
  rwa [List.take_of_length_le (by simp)] at h
theorem isW_short {s : ByteArray} (h : s.size < 1) : isW s.data.toList = false := by
  unfold isW
  have : decide (1 ≤ s.data.toList.length) = false := by simpa using h
  rw [this]
  simp
theorem isW_long {s : ByteArray} (h : 40 < s.size) : isW s.data.toList = false := by
  unfold isW
  have : decide (s.data.toList.length ≤ 40) = false := by simpa using h
  rw [this]
  simp
set_option maxRecDepth 100000 in
set_option maxHeartbeats 1000000 in
theorem pword (s : ByteArray) (w : World) (hs : s.size ≤ maxLen) : Calls Tryd.prog 21 #[.string s] w fun e w' => e = .returned (.bool (isW s.data.toList)) ∧ w' = w := by
  unfold maxLen at hs
  by_cases h1 : s.size < 1
  · rw [isW_short h1]
    go_enter Tryd.func21, Tryd.ntmps21
    go_wp2_with fail
    go_ret
    exact ⟨rfl, rfl⟩
  by_cases h2 : 40 < s.size
  · rw [isW_long h2]
    go_enter Tryd.func21, Tryd.ntmps21
    go_wp2_with fail
    go_ret
    exact ⟨rfl, rfl⟩
  go_enter Tryd.func21, Tryd.ntmps21
  go_wp2_with fail
  go_loop [14] (fun i => ∃ k : Nat, k ≤ s.size ∧ i = .int .i64 k ∧ Hid (upW s k = true)) (fun i => s.size - (intOf i).toNat)
  case atStart => exact ⟨0, Nat.zero_le _, rfl, upW_zero s⟩
  case round =>
    obtain ⟨k, hk, rfl, HA⟩ := hrel
    by_cases hlt : k < s.size
    · cases hc : wch s[k] with
      | true =>
        have HN : Hid (upW s (k + 1) = true) := upW_snoc hlt HA.out hc
        go_wp2_with (go_at_call 36; refine (pin _ _).mono ?_; rintro e w' ⟨rfl, rfl⟩)
        go_round
        case rel => exact ⟨k + 1, by omega, by go_num, HN⟩
        case measure => simp [intOf]; omega
      | false =>
        have HN : Hid (isW s.data.toList = false) := isW_not hlt hc
        go_wp2_with (go_at_call 36; refine (pin _ _).mono ?_; rintro e w' ⟨rfl, rfl⟩)
        go_ret
        exact ⟨ret_bool HN.out.symm, rfl⟩
    · go_wp2_with fail
      go_ret
      obtain rfl : k = s.size := by omega
      exact ⟨ret_bool (isW_end (by omega) (by omega) HA.out).symm, rfl⟩

/-! ### the document's -/
theorem wch_cases {b : UInt8} (h : wch b = true) : ((97 : Int) ≤ b.toNat ∧ (b.toNat : Int) ≤ 122) ∨ (¬ (97 : Int) ≤ b.toNat ∧ (48 : Int) ≤ b.toNat ∧ (b.toNat : Int) ≤ 57) ∨ (¬ (97 : Int) ≤ b.toNat ∧ ¬ (b.toNat : Int) ≤ 57 ∧ (b.toNat : Int) = 95) := by
  rw [wch_int] at h
  simp only [Bool.or_eq_true, Bool.and_eq_true, decide_eq_true_eq, beq_iff_eq] at h
  omega
theorem wch_none {b : UInt8} (h : wch b = false) : (¬ (97 : Int) ≤ b.toNat ∧ ¬ (48 : Int) ≤ b.toNat) ∨ (¬ (97 : Int) ≤ b.toNat ∧ (48 : Int) ≤ b.toNat ∧ ¬ (b.toNat : Int) ≤ 57 ∧ ((b.toNat : Int) == 95) = false) ∨ ((97 : Int) ≤ b.toNat ∧ ¬ (b.toNat : Int) ≤ 122) := by
  have h' : ¬ wch b = true := by rw [h]; simp
  rw [wch_int] at h'
  simp only [Bool.or_eq_true, Bool.and_eq_true, decide_eq_true_eq, beq_iff_eq] at h'
  by_cases e : (b.toNat : Int) = 95
  · omega
  · have e2 : ((b.toNat : Int) == 95) = false := by simpa using e
    rw [e2]
    simp only [and_true]
    omega
set_option maxRecDepth 100000 in
set_option maxHeartbeats 4000000 in
theorem rword (s : ByteArray) (w : World) (hs : s.size ≤ maxLen) : Calls Tryd.prog 22 #[.string s] w fun e w' => e = .returned (.bool (isW s.data.toList)) ∧ w' = w := by
  unfold maxLen at hs
  go_enter Tryd.func22, Tryd.ntmps22
  go_wp2_with fail
  go_loop [3] (fun i => ∃ k : Nat, k ≤ s.size ∧ i = .int .i64 k ∧ Hid (upW s k = true)) (fun i => s.size - (intOf i).toNat)
  case atStart => exact ⟨0, Nat.zero_le _, rfl, upW_zero s⟩
  case round =>
    obtain ⟨k, hk, rfl, HA⟩ := hrel
    by_cases hlt : k < s.size
    · obtain ⟨b, hb⟩ : ∃ b, s[k] = b := ⟨_, rfl⟩
      have hb8 := b.toNat_lt
      cases hc : wch b with
      | true =>
        have HN : Hid (upW s (k + 1) = true) := upW_snoc hlt HA.out (by rw [hb]; exact hc)
        have hcc := wch_cases hc
        clear hc
        rcases hcc with ⟨h1, h2⟩ | ⟨h1, h2, h3⟩ | ⟨h1, h2, h3⟩
        · go_wp2_with fail
          go_round
          case rel => exact ⟨k + 1, by omega, by go_num, HN⟩
          case measure => simp [intOf]; omega
        · go_wp2_with fail
          go_round
          case rel => exact ⟨k + 1, by omega, by go_num, HN⟩
          case measure => simp [intOf]; omega
        · have h4 : (48 : Int) ≤ b.toNat := by omega
          go_wp2_with fail
          go_round
          case rel => exact ⟨k + 1, by omega, by go_num, HN⟩
          case measure => simp [intOf]; omega
      | false =>
        have HN : Hid (isW s.data.toList = false) := isW_not hlt (by rw [hb]; exact hc)
        have hcc := wch_none hc
        clear hc
        rcases hcc with ⟨h1, h2⟩ | ⟨h1, h2, h3, h4⟩ | ⟨h1, h2⟩
        · have h3 : ((b.toNat : Int) == 95) = false := by simp; omega
          go_wp2_with fail
          go_ret
          exact ⟨ret_bool HN.out.symm, rfl⟩
        · go_wp2_with fail
          go_ret
          exact ⟨ret_bool HN.out.symm, rfl⟩
        · have h3 : ((b.toNat : Int) == 95) = false := by simp; omega
          have h4 : (48 : Int) ≤ b.toNat := by omega
          have h5 : ¬ (b.toNat : Int) ≤ 57 := by omega
          go_wp2_with fail
          go_ret
          exact ⟨ret_bool HN.out.symm, rfl⟩
    · by_cases h1 : (1 : Int) ≤ s.size
      · by_cases h2 : (s.size : Int) ≤ 40
        · go_wp2_with fail
          go_ret
          obtain rfl : k = s.size := by omega
          exact ⟨ret_bool (isW_end (by omega) (by omega) HA.out).symm, rfl⟩
        · go_wp2_with fail
          go_ret
          exact ⟨ret_bool (isW_long (by omega)).symm, rfl⟩
      · go_wp2_with fail
        go_ret
        exact ⟨ret_bool (isW_short (by omega)).symm, rfl⟩
end Go.Proofs.YtbkeoaombhhdiaaDoor
