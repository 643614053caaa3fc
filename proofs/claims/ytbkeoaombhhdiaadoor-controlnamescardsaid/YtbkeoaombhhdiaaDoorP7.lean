/-
  A text cut at a byte, a text copied; rows of texts and of ints that grow side by side.
-/
import Derived.Test.YtbkeoaombhhdiaaDoorP6
import Derived.Maps.AppendAt
namespace Go.Proofs.YtbkeoaombhhdiaaDoor
open Go.RowKit

theorem below_drewN (w : World) (n : Nat) : Below w.heap.size w (w.drewN n) := ⟨rfl, rfl, rfl, Nat.le_refl _, fun _ _ => rfl⟩
/-! ### cut at a byte -/
def cut1 (c : UInt8) : Bs → Bs × Bs × Bool
  | [] => ([], [], false)
  | b :: l => if b = c then ([], l, true) else (b :: (cut1 c l).1, (cut1 c l).2.1, (cut1 c l).2.2)
theorem cut1_yes {c : UInt8} : ∀ {T : Bs}, (cut1 c T).2.2 = true → T = (cut1 c T).1 ++ c :: (cut1 c T).2.1 ∧ c ∉ (cut1 c T).1
  | [], h => by cases h
  | b :: l, h => by
    by_cases e : b = c
    · subst e
      simp [cut1]
    · simp only [cut1, if_neg e] at h ⊢
      obtain ⟨h1, h2⟩ := cut1_yes h
      refine ⟨by rw [List.cons_append, ← h1], ?_⟩
      intro hm
      rcases List.mem_cons.1 hm with k | k
      · exact e k.symm
      · exact h2 k
theorem cut1_no {c : UInt8} : ∀ {T : Bs}, (cut1 c T).2.2 = false → (cut1 c T).1 = T ∧ (cut1 c T).2.1 = [] ∧ c ∉ T
  | [], _ => ⟨rfl, rfl, by simp⟩
  | b :: l, h => by
    by_cases e : b = c
    · subst e
      simp [cut1] at h
    · simp only [cut1, if_neg e] at h ⊢
      obtain ⟨h1, h2, h3⟩ := cut1_no h
      refine ⟨by rw [h1], h2, ?_⟩
      intro hm
      rcases List.mem_cons.1 hm with k | k
      · exact e k.symm
      · exact h3 k
theorem cut1_of {c : UInt8} {A R : Bs} (h : c ∉ A) : cut1 c (A ++ c :: R) = (A, R, true) := by
  induction A with
  | nil => simp [cut1]
  | cons a A ih =>
    have ha : ¬ a = c := fun e => h (by simp [e])
    have := ih (fun k => h (by simp [k]))
    simp [cut1, ha, this]
theorem cut1_len (c : UInt8) (T : Bs) : (cut1 c T).1.length ≤ T.length ∧ (cut1 c T).2.1.length ≤ T.length ∧ (T ≠ [] → (cut1 c T).2.1.length < T.length) := by
  cases h : (cut1 c T).2.2 with
  | true =>
    have e := (cut1_yes h).1
    have := congrArg List.length e
    simp only [List.length_append, List.length_cons] at this
    omega
  | false =>
    obtain ⟨h1, h2, -⟩ := cut1_no h
    rw [h1, h2]
    refine ⟨Nat.le_refl _, Nat.zero_le _, fun hne => ?_⟩
    have : T.length ≠ 0 := fun e => hne (List.length_eq_zero_iff.1 e)
    simp only [List.length_nil]
    omega
theorem index_cut (c : UInt8) : ∀ (T : Bs), (Lib.indexByte T c = -1 ∧ (cut1 c T).2.2 = false) ∨ (∃ i : Nat, Lib.indexByte T c = i ∧ i < T.length ∧ (cut1 c T).2.2 = true ∧ T.take i = (cut1 c T).1 ∧ T.drop (i + 1) = (cut1 c T).2.1)
  | [] => Or.inl ⟨rfl, rfl⟩
  | b :: l => by
    by_cases e : b = c
    · subst e
      exact Or.inr ⟨0, by simp [Lib.indexByte], by simp, by simp [cut1], by simp [cut1], by simp [cut1]⟩
    · have e' : (b == c) = false := by simpa using e
      rcases index_cut c l with ⟨h1, h2⟩ | ⟨i, h1, h2, h3, h4, h5⟩
      · exact Or.inl ⟨by simp [Lib.indexByte, e', h1], by simp [cut1, e, h2]⟩
      · refine Or.inr ⟨i + 1, ?_, by simp only [List.length_cons]; omega, by simp [cut1, e, h3], by simp [cut1, e, h4], by simp [cut1, e, h5]⟩
        simp [Lib.indexByte, e', h1]
def three2 (r : Bs × Bs × Bool) : Ending := .returned (.tuple #[.string (str r.1), .string (str r.2.1), .bool r.2.2])
theorem ret_cut {a b c d : ByteArray} {x y : Bool} (h : a = b) (k : c = d) (j : x = y) : Ending.returned (.tuple #[.string a, .string c, .bool x]) = .returned (.tuple #[.string b, .string d, .bool y]) := by rw [h, k, j]
theorem ext_take (s : ByteArray) (i : Nat) : s.extract 0 i = str (s.data.toList.take i) := ba_ext (by
  rw [Lib.extract_data]; simp)
theorem ext_drop (s : ByteArray) (i : Nat) : s.extract i s.size = str (s.data.toList.drop i) := ba_ext (by
  rw [Lib.extract_data]
  have : (s.data.toList.drop i).length ≤ s.size - i := by simp
  rw [List.take_of_length_le this])
set_option maxRecDepth 100000 in
theorem pcutS (c : UInt8) (s : ByteArray) (w : World) (hs : s.size ≤ maxLen) : Calls Tryd.prog 42 #[.string s, .string ⟨#[c]⟩] w fun e w' => e = three2 (cut1 c s.data.toList) ∧ Below w.heap.size w w' := by
  unfold maxLen at hs
  have hi := Tryd.stringslite_Index_one s c
  rcases index_cut c s.data.toList with ⟨h1, h2⟩ | ⟨i, h1, h2, h3, h4, h5⟩
  · have HE : Hid (three2 (cut1 c s.data.toList) = .returned (.tuple #[.string s, .string ⟨#[]⟩, .bool false])) := by
      obtain ⟨k1, k2, -⟩ := cut1_no h2
      show three2 _ = _
      unfold three2
      rw [k1, k2, h2]
    have HI : Hid (∀ w, Calls Tryd.prog 49 #[.string s, .string ⟨#[c]⟩] w fun e w' => e = .returned (.int .i64 (-1)) ∧ w' = w) := fun w => by rw [← h1]; exact hi w
    clear h1 h2 hi
    go_enter Tryd.func42, Tryd.ntmps42
    go_wp2_with (go_at_call 49; refine (HI.out _).mono ?_; rintro e w' ⟨rfl, rfl⟩)
    go_ret3
    exact ⟨HE.out.symm, Below.refl _ _⟩
  · have hi2 : i < s.size := by simpa using h2
    have HE : Hid (three2 (cut1 c s.data.toList) = .returned (.tuple #[.string (s.extract 0 i), .string (s.extract (i + 1) s.size), .bool true])) := by
      show three2 _ = _
      unfold three2
      rw [ext_take, ext_drop, h4, h5, h3]
    have HI : Hid (∀ w, Calls Tryd.prog 49 #[.string s, .string ⟨#[c]⟩] w fun e w' => e = .returned (.int .i64 i) ∧ w' = w) := fun w => by rw [← h1]; exact hi w
    clear h1 h2 h3 h4 h5 hi
    go_enter Tryd.func42, Tryd.ntmps42
    go_wp2_with (go_at_call 49; refine (HI.out _).mono ?_; rintro e w' ⟨rfl, rfl⟩)
    have hw1 : IntKind.i64.wrap ((i : Int) + 1) = (i : Int) + 1 := by rw [IntKind.wrap_i64]; omega
    go_quiet (fail)
    go_wp2_with fail
    go_ret3
    exact ⟨HE.out.symm, below_drewN _ _⟩
theorem pcut (c : UInt8) (s : ByteArray) (w : World) (hs : s.size ≤ maxLen) : Calls Tryd.prog 32 #[.string s, .string ⟨#[c]⟩] w fun e w' => e = three2 (cut1 c s.data.toList) ∧ Below w.heap.size w w' := by
  have HC : Hid (∀ w, Calls Tryd.prog 42 #[.string s, .string ⟨#[c]⟩] w fun e w' => e = three2 (cut1 c s.data.toList) ∧ Below w.heap.size w w') := fun w => pcutS c s w hs
  go_enter Tryd.func32, Tryd.ntmps32
  go_wp2_with (go_at_call 42; refine (HC.out _).mono ?_; unfold three2; rintro e w1 ⟨rfl, hb1⟩)
  go_ret3
  exact ⟨rfl, hb1⟩
theorem pclone (s : ByteArray) (w : World) (hs : s.size ≤ 281474976710656) : Calls Tryd.prog 34 #[.string s] w fun e w' => e = .returned (.string s) ∧ Below w.heap.size w w' := by
  have HC : Hid (∀ w, Calls Tryd.prog 44 #[.string s] w fun e w' => e = .returned (.string s) ∧ Below w.heap.size w w') := fun w => Tryd.stringslite_Clone s w hs
  go_enter Tryd.func34, Tryd.ntmps34
  go_wp2_with (go_at_call 44; refine (HC.out _).mono ?_; rintro e w1 ⟨rfl, hb1⟩)
  go_ret
  exact ⟨rfl, hb1⟩
end Go.Proofs.YtbkeoaombhhdiaaDoor
