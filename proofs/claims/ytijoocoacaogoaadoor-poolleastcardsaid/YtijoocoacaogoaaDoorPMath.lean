/-
  Plain facts on rows of bits: the least place where some side by side are off; a row with some of them on. No program is named here.
-/
import Derived.Test.YtijoocoacaogoaaDoorW5
namespace Go.Proofs.YtijoocoacaogoaaDoor
open Go.RowKit

/-- Where n side by side are free (off): the least such place, or -1. -/
def IsRoom (bs : List Bool) (n : Nat) (r : Int) : Prop :=
  (r = -1 ∧ ∀ j, j + n ≤ bs.length → ∃ k, j ≤ k ∧ k < j + n ∧ bs.getD k false = true) ∨
  (∃ j : Nat, r = j ∧ j + n ≤ bs.length ∧ (∀ k, j ≤ k → k < j + n → bs.getD k false = false) ∧ ∀ i, i < j → ∃ k, i ≤ k ∧ k < i + n ∧ bs.getD k false = true)

theorem IsRoom.unique {bs : List Bool} {n : Nat} {r s : Int} (h : IsRoom bs n r) (g : IsRoom bs n s) : r = s := by
  rcases h with ⟨rfl, h⟩ | ⟨i, rfl, h1, h2, h3⟩ <;> rcases g with ⟨rfl, g⟩ | ⟨j, rfl, g1, g2, g3⟩
  · rfl
  · obtain ⟨k, k1, k2, k3⟩ := h j g1
    rw [g2 k k1 k2] at k3; cases k3
  · obtain ⟨k, k1, k2, k3⟩ := g i h1
    rw [h2 k k1 k2] at k3; cases k3
  · rcases Nat.lt_trichotomy i j with hij | hij | hij
    · obtain ⟨k, k1, k2, k3⟩ := g3 i hij
      rw [h2 k k1 k2] at k3; cases k3
    · rw [hij]
    · obtain ⟨k, k1, k2, k3⟩ := h3 j hij
      rw [g2 k k1 k2] at k3; cases k3

/-- No window of n that begins below f is free. -/
def NoRoom (bs : List Bool) (n f : Nat) : Prop := ∀ j, j < f → j + n ≤ bs.length → ∃ k, j ≤ k ∧ k < j + n ∧ bs.getD k false = true
theorem NoRoom.zero (bs : List Bool) (n : Nat) : NoRoom bs n 0 := fun j h => by omega

theorem room_none {bs : List Bool} {n f : Nat} (hn : 1 ≤ n) (h : NoRoom bs n f) (hx : IsNext bs f false (-1)) : IsRoom bs n (-1) := by
  rcases hx with ⟨-, hx⟩ | ⟨j, hj, -⟩
  · refine Or.inl ⟨rfl, fun j hj => ?_⟩
    by_cases hjf : j < f
    · exact h j hjf hj
    · exact ⟨j, Nat.le_refl _, by omega, by have := hx j (by omega) (by omega); simpa using this⟩
  · omega
theorem room_step {bs : List Bool} {n f j : Nat} (hn : 1 ≤ n) (h : NoRoom bs n f) (hx : IsNext bs f false j) :
    NoRoom bs n j ∧ j < bs.length ∧ bs.getD j false = false := by
  rcases hx with ⟨hx, -⟩ | ⟨i, hi, h1, h2, h3, h4⟩
  · omega
  · obtain rfl : j = i := by omega
    refine ⟨fun i hi hl => ?_, h2, h3⟩
    by_cases hif : i < f
    · exact h i hif hl
    · exact ⟨i, Nat.le_refl _, by omega, by have := h4 i (by omega) hi; simpa using this⟩
/-- The end of the gap that begins at j. -/
def IsEnd (bs : List Bool) (j e : Nat) : Prop := j < e ∧ e ≤ bs.length ∧ (∀ k, j ≤ k → k < e → bs.getD k false = false) ∧ (e = bs.length ∨ bs.getD e false = true)
theorem end_of_next {bs : List Bool} {j : Nat} {r : Int} (hj : j < bs.length) (hf : bs.getD j false = false) (hx : IsNext bs j true r) :
    (r = -1 → IsEnd bs j bs.length) ∧ (∀ e : Nat, r = e → IsEnd bs j e) ∧ (r = -1 ∨ ∃ e : Nat, r = e ∧ e < bs.length) := by
  rcases hx with ⟨rfl, hx⟩ | ⟨i, rfl, h1, h2, h3, h4⟩
  · refine ⟨fun _ => ⟨hj, Nat.le_refl _, fun k k1 k2 => by have := hx k k1 k2; simpa using this, Or.inl rfl⟩, fun e he => by omega, Or.inl rfl⟩
  · refine ⟨fun h => by omega, fun e he => ?_, Or.inr ⟨i, rfl, h2⟩⟩
    obtain rfl : i = e := by omega
    refine ⟨?_, by omega, fun k k1 k2 => by have := h4 k k1 k2; simpa using this, Or.inr h3⟩
    by_cases e : i = j
    · subst e; rw [hf] at h3; cases h3
    · omega
theorem room_hit {bs : List Bool} {n j e : Nat} (h : NoRoom bs n j) (he : IsEnd bs j e) (hn : n ≤ e - j) : IsRoom bs n j := by
  obtain ⟨h1, h2, h3, h4⟩ := he
  refine Or.inr ⟨j, rfl, by omega, fun k k1 k2 => h3 k k1 (by omega), fun i hi => h i hi (by omega)⟩
theorem room_miss {bs : List Bool} {n j e : Nat} (h : NoRoom bs n j) (he : IsEnd bs j e) (hn : e - j < n) : NoRoom bs n e := by
  obtain ⟨h1, h2, h3, h4⟩ := he
  intro i hi hl
  by_cases hij : i < j
  · exact h i hij hl
  · rcases h4 with rfl | h4
    · omega
    · exact ⟨e, by omega, by omega, h4⟩

/-- The least number below m that p holds of, or -1. -/
def leastOf (p : Nat → Bool) : Nat → Int
  | 0 => -1
  | m + 1 => if leastOf p m = -1 then (if p m then (m : Int) else -1) else leastOf p m
theorem leastOf_is (p : Nat → Bool) : ∀ m, (leastOf p m = -1 ∧ ∀ j, j < m → p j = false) ∨ ∃ j : Nat, leastOf p m = j ∧ j < m ∧ p j = true ∧ ∀ i, i < j → p i = false
  | 0 => Or.inl ⟨rfl, fun j h => by omega⟩
  | m + 1 => by
    rcases leastOf_is p m with ⟨h1, h2⟩ | ⟨j, h1, h2, h3, h4⟩
    · cases hp : p m
      · refine Or.inl ⟨?_, fun j hj => ?_⟩
        · show (if leastOf p m = -1 then (if p m then (m : Int) else -1) else leastOf p m) = -1
          rw [if_pos h1, hp]; rfl
        · by_cases e : j = m
          · subst e; exact hp
          · exact h2 j (by omega)
      · refine Or.inr ⟨m, ?_, by omega, hp, h2⟩
        show (if leastOf p m = -1 then (if p m then (m : Int) else -1) else leastOf p m) = _
        rw [if_pos h1, hp]; rfl
    · refine Or.inr ⟨j, ?_, by omega, h3, h4⟩
      show (if leastOf p m = -1 then (if p m then (m : Int) else -1) else leastOf p m) = _
      rw [if_neg (by omega), h1]
def windowFree (bs : List Bool) (n j : Nat) : Bool := decide (j + n ≤ bs.length) && (List.range n).all fun t => !(bs.getD (j + t) false)
theorem windowFree_true {bs : List Bool} {n j : Nat} (h : windowFree bs n j = true) : j + n ≤ bs.length ∧ ∀ k, j ≤ k → k < j + n → bs.getD k false = false := by
  unfold windowFree at h
  rw [Bool.and_eq_true] at h
  refine ⟨of_decide_eq_true h.1, fun k k1 k2 => ?_⟩
  have := List.all_eq_true.1 h.2 (k - j) (List.mem_range.2 (by omega))
  rw [show j + (k - j) = k by omega] at this
  simpa using this
theorem windowFree_false {bs : List Bool} {n j : Nat} (h : windowFree bs n j = false) (hl : j + n ≤ bs.length) : ∃ k, j ≤ k ∧ k < j + n ∧ bs.getD k false = true := by
  unfold windowFree at h
  rw [decide_eq_true hl, Bool.true_and] at h
  obtain ⟨t, ht, hb⟩ := List.all_eq_false.1 h
  exact ⟨j + t, by omega, by have := List.mem_range.1 ht; omega, by simpa using hb⟩
/-- The room. -/
def room (bs : List Bool) (n : Nat) : Int := leastOf (windowFree bs n) (bs.length + 1)
theorem room_is (bs : List Bool) (n : Nat) : IsRoom bs n (room bs n) := by
  rcases leastOf_is (windowFree bs n) (bs.length + 1) with ⟨h1, h2⟩ | ⟨j, h1, h2, h3, h4⟩
  · exact Or.inl ⟨h1, fun j hj => windowFree_false (h2 j (by omega)) hj⟩
  · obtain ⟨a, b⟩ := windowFree_true h3
    exact Or.inr ⟨j, h1, a, b, fun i hi => windowFree_false (h4 i hi) (by omega)⟩
theorem room_eq {bs : List Bool} {n : Nat} {r : Int} (h : IsRoom bs n r) : r = room bs n := h.unique (room_is bs n)

/-- The bits with n of them on from j. -/
def fill (bs : List Bool) (j : Nat) : Nat → List Bool
  | 0 => bs
  | n + 1 => (fill bs j n).set (j + n) true
theorem fill_len (bs : List Bool) (j : Nat) : ∀ n, (fill bs j n).length = bs.length
  | 0 => rfl
  | n + 1 => by simp [fill, fill_len bs j n]
theorem fill_get (bs : List Bool) (j : Nat) : ∀ n i, j + n ≤ bs.length → (fill bs j n).getD i false = (if j ≤ i ∧ i < j + n then true else bs.getD i false)
  | 0, i, _ => by rw [if_neg (by omega)]; rfl
  | n + 1, i, h => by
    have ih := fill_get bs j n i (by omega)
    simp only [fill, List.getD_eq_getElem?_getD, List.getElem?_set, fill_len] at ih ⊢
    by_cases e : j + n = i
    · rw [if_pos e, if_pos (by omega), if_pos (by omega)]; rfl
    · rw [if_neg e, ih]
      by_cases c : j ≤ i ∧ i < j + n
      · rw [if_pos c, if_pos (by omega)]
      · rw [if_neg c, if_neg (by omega)]

theorem cnt_set (bs : List Bool) (n : Nat) (on : Bool) (h : n < bs.length) : ((bs.set n on).count true : Int) = bs.count true + (on.toNat : Int) - ((bs.getD n false).toNat : Int) := by
  induction bs generalizing n with
  | nil => simp at h
  | cons b r ih =>
    cases n with
    | zero => cases b <;> cases on <;> simp <;> omega
    | succ n =>
      have := ih n (by simpa using h)
      rw [List.set_cons_succ, List.getD_cons_succ, List.count_cons, List.count_cons]
      generalize (if (b == true) = true then 1 else 0) = q
      omega
theorem fill_count (bs : List Bool) (j : Nat) : ∀ n, j + n ≤ bs.length → (∀ k, j ≤ k → k < j + n → bs.getD k false = false) → (fill bs j n).count true = bs.count true + n
  | 0, _, _ => rfl
  | n + 1, h, hf => by
    have ih := fill_count bs j n (by omega) (fun k k1 k2 => hf k k1 (by omega))
    have hs := cnt_set (fill bs j n) (j + n) true (by rw [fill_len]; omega)
    rw [fill_get bs j n (j + n) (by omega), if_neg (by omega), hf (j + n) (by omega) (by omega), ih] at hs
    show ((fill bs j n).set (j + n) true).count true = _
    simp at hs
    omega
theorem fill_one (bs : List Bool) (j : Nat) : fill bs j 1 = bs.set j true := rfl

/-- One alone: the least that is off. -/
theorem room_one {bs : List Bool} {r : Int} (h : IsRoom bs 1 r) : IsNext bs 0 false r := by
  rcases h with ⟨rfl, h⟩ | ⟨j, rfl, h1, h2, h3⟩
  · refine Or.inl ⟨rfl, fun j _ hj => ?_⟩
    obtain ⟨k, k1, k2, k3⟩ := h j (by omega)
    obtain rfl : k = j := by omega
    rw [k3]; decide
  · refine Or.inr ⟨j, rfl, by omega, by omega, h2 j (by omega) (by omega), fun i _ hi => ?_⟩
    obtain ⟨k, k1, k2, k3⟩ := h3 i hi
    obtain rfl : k = i := by omega
    rw [k3]; decide

end Go.Proofs.YtijoocoacaogoaaDoor
