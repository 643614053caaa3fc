/-
  A node copied with all below it: what the copy's nodes are. No walk yet.
-/
import Derived.Test.YtaecacbapeogdaaTwo
namespace Go.Proofs.Ytaecacbapeogdaa
open Go.RowKit

theorem RowAt.setCells {w : World} {b : Nat} {t : TypeId} : ∀ (vs L : List Value) (o : Nat), RowAt w b t L → o + vs.length ≤ L.length → RowAt (w.setCells b o vs) b t (L.take o ++ vs ++ L.drop (o + vs.length)) := by
  intro vs
  induction vs generalizing w with
  | nil =>
    intro L o h _
    simpa [World.setCells] using h
  | cons v vs ih =>
    intro L o h hl
    have h1 := ih (w := w.setCell ⟨b, o, none⟩ v) (L.set o v) (o + 1) (h.set o v) (by simp at hl ⊢; omega)
    have e : (L.set o v).take (o + 1) ++ vs ++ (L.set o v).drop (o + 1 + vs.length) = L.take o ++ (v :: vs) ++ L.drop (o + (v :: vs).length) := by
      simp at hl
      have hlt : o < L.length := by omega
      have e1 : (L.set o v).take (o + 1) = L.take o ++ [v] := by
        rw [List.take_succ_eq_append_getElem (by simp; omega), List.take_set_of_le (Nat.le_refl _)]
        simp
      have e2 : (L.set o v).drop (o + 1 + vs.length) = L.drop (o + (v :: vs).length) := by
        rw [List.drop_set_of_lt (by omega)]
        congr 1
        simp
        omega
      rw [e1, e2]
      simp
    rw [e] at h1
    exact h1
theorem but_setCells (b : Nat) : ∀ (vs : List Value) (o : Nat) (w : World), But b w (w.setCells b o vs) := by
  intro vs
  induction vs with
  | nil => intro o w; exact But.refl _ _
  | cons v vs ih => intro o w; exact (But.setCell b o w v).trans (ih (o + 1) _)

/-! ### below a node -/
def under (k q j p : Nat) : Prop := k ≤ j ∧ p / 16 ^ (j - k) = q
theorem under_self (k q : Nat) : under k q k q := ⟨Nat.le_refl _, by simp⟩
theorem under_kid {k q j p i : Nat} (h : under k q j p) (hi : i < 16) : under k q (j + 1) (16 * p + i) := by
  refine ⟨by have := h.1; omega, ?_⟩
  have e : j + 1 - k = (j - k) + 1 := by have := h.1; omega
  rw [e, Nat.pow_succ', ← Nat.div_div_eq_div_mul, show (16 * p + i) / 16 = p by omega]
  exact h.2
/-- A kid's tree is its parent's. -/
theorem under_up {k q j p i : Nat} (h : under (k + 1) (16 * q + i) j p) (hi : i < 16) : under k q j p := by
  refine ⟨by have := h.1; omega, ?_⟩
  have e : j - k = (j - (k + 1)) + 1 := by have := h.1; omega
  rw [e, Nat.pow_succ, ← Nat.div_div_eq_div_mul, h.2]
  omega
/-- What is below a node is that node or below one of its kids. -/
theorem under_split {k q j p : Nat} (h : under k q j p) : (j = k ∧ p = q) ∨ ∃ i, i < 16 ∧ under (k + 1) (16 * q + i) j p := by
  by_cases e : j = k
  · subst e
    left
    have := h.2
    simp at this
    exact ⟨rfl, this⟩
  · right
    have h1 := h.1
    have e : j - k = (j - (k + 1)) + 1 := by omega
    have h2 := h.2
    rw [e, Nat.pow_succ, ← Nat.div_div_eq_div_mul] at h2
    refine ⟨p / 16 ^ (j - (k + 1)) % 16, Nat.mod_lt _ (by omega), by omega, ?_⟩
    omega
theorem under_one {k q i i' j p : Nat} (h : under (k + 1) (16 * q + i) j p) (h' : under (k + 1) (16 * q + i') j p) : i = i' := by
  have := h.2
  have := h'.2
  omega
theorem Heap.none_under {w : World} {t : Nat} {N : Nds} {T : Tab} {n m : Int} (h : Heap w t N T n m) {k q : Nat} (hn : N k q = none) : ∀ (d j p : Nat), j = k + d → under k q j p → N j p = none := by
  intro d
  induction d with
  | zero =>
    intro j p hj hu
    obtain rfl : j = k := by omega
    have := hu.2
    simp at this
    rw [this]; exact hn
  | succ d ih =>
    intro j p hj hu
    obtain rfl : j = k + d + 1 := by omega
    have h1 := ih (k + d) (p / 16) rfl ⟨by omega, by
      have h2 := hu.2
      rw [show k + d + 1 - k = d + 1 by omega, Nat.pow_succ', ← Nat.div_div_eq_div_mul] at h2
      rw [show k + d - k = d by omega]
      exact h2⟩
    cases hc : N (k + d + 1) p with
    | none => rfl
    | some c => exact absurd h1 (h.up _ _ (by rw [hc]; simp))

/-- Nodes that were made since block B was the next: their rows, by their beginnings; D names which there are. -/
structure Sub (w : World) (B : Nat) (M : Nds) (T : Tab) (D : Nat → Nat → Prop) : Prop where
  row : ∀ j p b, M j p = some b → RowAt w b 51 (nodeCells M T j p)
  inj : ∀ k q k' q' b, M k q = some b → M k' q' = some b → k = k' ∧ q = q'
  dom : ∀ j p, M j p ≠ none ↔ D j p
  new : ∀ j p b, M j p = some b → B ≤ b
section
variable {w w' : World} {B : Nat} {M : Nds} {T : Tab} {D : Nat → Nat → Prop}
theorem Sub.below (h : Sub w B M T D) (hb : Below w.heap.size w w') : Sub w' B M T D :=
  ⟨fun j p b e => (h.row j p b e).below hb (h.row j p b e).lt, h.inj, h.dom, h.new⟩
theorem Sub.but {c : Nat} (h : Sub w B M T D) (hb : But c w w') (hc : ∀ j p, M j p ≠ some c) : Sub w' B M T D :=
  ⟨fun j p b e => (h.row j p b e).but hb (fun e' => hc j p (by rw [← e']; exact e)), h.inj, h.dom, h.new⟩
theorem Sub.lt (h : Sub w B M T D) {j p b : Nat} (e : M j p = some b) : b < w.heap.size := (h.row j p b e).lt
end
/-- The kids copied so far, and one more. -/
theorem Sub.join {w w' w'' : World} {B B' : Nat} {N M M1 : Nds} {T : Tab} {k q i c : Nat}
    (h : Sub w B M T (fun j p => (∃ i', i' < i ∧ under (k + 1) (16 * q + i') j p) ∧ N j p ≠ none)) (h1 : Sub w' B' M1 T (fun j p => under (k + 1) (16 * q + i) j p ∧ N j p ≠ none)) (hB : B ≤ B') (hBw : w.heap.size ≤ B') (hb : Below w.heap.size w w') (hb' : But c w' w'') (hc : ∀ j p, M j p ≠ some c) (hc1 : c < w.heap.size) :
    ∃ M2 : Nds, Sub w'' B M2 T (fun j p => (∃ i', i' < i + 1 ∧ under (k + 1) (16 * q + i') j p) ∧ N j p ≠ none) ∧ (∀ i', i' < i → M2 (k + 1) (16 * q + i') = M (k + 1) (16 * q + i')) ∧ M2 (k + 1) (16 * q + i) = M1 (k + 1) (16 * q + i) ∧ (∀ j p, M2 j p ≠ some c) := by
  obtain ⟨M2, hM2⟩ : ∃ M2 : Nds, M2 = fun j p => if M1 j p ≠ none then M1 j p else M j p := ⟨_, rfl⟩
  have a1 : ∀ j p, under (k + 1) (16 * q + i) j p → M2 j p = M1 j p := by
    intro j p hu
    rw [hM2]
    by_cases e : M1 j p = none
    · simp only [e, ne_eq, not_true_eq_false, if_false]
      cases hc : M j p with
      | none => rfl
      | some b =>
        obtain ⟨⟨i', hi', hu'⟩, _⟩ := (h.dom j p).1 (by rw [hc]; simp)
        have := under_one hu hu'
        omega
    · simp [e]
  have a2 : ∀ j p, ¬ under (k + 1) (16 * q + i) j p → M2 j p = M j p := by
    intro j p hu
    rw [hM2]
    by_cases e : M1 j p = none
    · simp [e]
    · exact absurd ((h1.dom j p).1 e).1 hu
  have kids : ∀ j p, M j p ≠ none → ∀ i'', i'' < 16 → ¬ under (k + 1) (16 * q + i) (j + 1) (16 * p + i'') := by
    intro j p hM i'' hi'' hu
    obtain ⟨⟨i', hi', hu'⟩, _⟩ := (h.dom j p).1 hM
    have := under_one hu (under_kid hu' hi'')
    omega
  have hsub := h.below hb
  refine ⟨M2, ⟨?_, ?_, ?_, ?_⟩, ?_, ?_, ?_⟩
  · intro j p b hb2
    by_cases hu : under (k + 1) (16 * q + i) j p
    · rw [a1 j p hu] at hb2
      have hne : b ≠ c := fun e => by have := h1.new j p b hb2; omega
      have hr := (h1.row j p b hb2).but hb' hne
      have e : nodeCells M2 T j p = nodeCells M1 T j p := nodeRow_congr fun i'' hi'' => ⟨a1 _ _ (under_kid hu hi''), rfl⟩
      rw [e]; exact hr
    · rw [a2 j p hu] at hb2
      have hne : b ≠ c := fun e => hc j p (by rw [← e]; exact hb2)
      have hr := (hsub.row j p b hb2).but hb' hne
      have e : nodeCells M2 T j p = nodeCells M T j p := nodeRow_congr fun i'' hi'' => ⟨a2 _ _ (kids j p (by rw [hb2]; simp) i'' hi''), rfl⟩
      rw [e]; exact hr
  · intro k1 q1 k2 q2 b e1 e2
    by_cases u1 : under (k + 1) (16 * q + i) k1 q1
    · rw [a1 _ _ u1] at e1
      by_cases u2 : under (k + 1) (16 * q + i) k2 q2
      · rw [a1 _ _ u2] at e2
        exact h1.inj _ _ _ _ b e1 e2
      · rw [a2 _ _ u2] at e2
        have := h1.new _ _ _ e1
        have := h.lt e2
        omega
    · rw [a2 _ _ u1] at e1
      by_cases u2 : under (k + 1) (16 * q + i) k2 q2
      · rw [a1 _ _ u2] at e2
        have := h1.new _ _ _ e2
        have := h.lt e1
        omega
      · rw [a2 _ _ u2] at e2
        exact h.inj _ _ _ _ b e1 e2
  · intro j p
    by_cases hu : under (k + 1) (16 * q + i) j p
    · rw [a1 j p hu, h1.dom]
      constructor
      · rintro ⟨_, hn⟩
        exact ⟨⟨i, by omega, hu⟩, hn⟩
      · rintro ⟨_, hn⟩
        exact ⟨hu, hn⟩
    · rw [a2 j p hu, h.dom]
      constructor
      · rintro ⟨⟨i', hi', hu'⟩, hn⟩
        exact ⟨⟨i', by omega, hu'⟩, hn⟩
      · rintro ⟨⟨i', hi', hu'⟩, hn⟩
        have : i' ≠ i := fun e => hu (e ▸ hu')
        exact ⟨⟨i', by omega, hu'⟩, hn⟩
  · intro j p b hb2
    by_cases hu : under (k + 1) (16 * q + i) j p
    · rw [a1 j p hu] at hb2
      exact Nat.le_trans hB (h1.new j p b hb2)
    · rw [a2 j p hu] at hb2
      exact h.new j p b hb2
  · intro i' hi'
    refine a2 _ _ fun hu => ?_
    have := under_one hu (under_self (k + 1) (16 * q + i'))
    omega
  · exact a1 _ _ (under_self _ _)
  · intro j p e
    by_cases hu : under (k + 1) (16 * q + i) j p
    · rw [a1 j p hu] at e
      have := h1.new j p c e
      omega
    · rw [a2 j p hu] at e
      exact hc j p e
/-- A kid that is not there needs no copy. -/
theorem Sub.pass {w : World} {B t : Nat} {w0 : World} {N M : Nds} {T : Tab} {n m : Int} {k q i : Nat} (hN : Heap w0 t N T n m) (h : Sub w B M T (fun j p => (∃ i', i' < i ∧ under (k + 1) (16 * q + i') j p) ∧ N j p ≠ none)) (hn : N (k + 1) (16 * q + i) = none) :
    Sub w B M T (fun j p => (∃ i', i' < i + 1 ∧ under (k + 1) (16 * q + i') j p) ∧ N j p ≠ none) := by
  refine ⟨h.row, h.inj, fun j p => ?_, h.new⟩
  rw [h.dom]
  constructor
  · rintro ⟨⟨i', hi', hu'⟩, hn'⟩
    exact ⟨⟨i', by omega, hu'⟩, hn'⟩
  · rintro ⟨⟨i', hi', hu'⟩, hn'⟩
    have : i' ≠ i := by
      rintro rfl
      exact hn' (hN.none_under hn (j - (k + 1)) j p (by have := hu'.1; omega) hu')
    exact ⟨⟨i', by omega, hu'⟩, hn'⟩
/-- All kids copied: the node with them. -/
theorem Sub.whole {w : World} {B c : Nat} {N M : Nds} {T : Tab} {k q : Nat} (h : Sub w B M T (fun j p => (∃ i', i' < 16 ∧ under (k + 1) (16 * q + i') j p) ∧ N j p ≠ none)) (hc : ∀ j p, M j p ≠ some c) (hB : B ≤ c) (hnk : N k q ≠ none)
    (hrow : RowAt w c 51 (nodeCells M T k q)) : Sub w B (addN M k q c) T (fun j p => under k q j p ∧ N j p ≠ none) := by
  have hkq : M k q = none := by
    cases e : M k q with
    | none => rfl
    | some b =>
      obtain ⟨⟨i', hi', hu'⟩, _⟩ := (h.dom k q).1 (by rw [e]; simp)
      have := hu'.1
      omega
  refine ⟨?_, ?_, ?_, ?_⟩
  · intro j p b hb
    by_cases e : j = k ∧ p = q
    · obtain ⟨rfl, rfl⟩ := e
      rw [addN_same] at hb
      injection hb with hb
      subst hb
      have e : nodeCells (addN M j p c) T j p = nodeCells M T j p := nodeRow_congr fun i'' hi'' => ⟨addN_other _ _ _ _ (by omega), rfl⟩
      rw [e]; exact hrow
    · rw [addN_other _ _ _ _ e] at hb
      have hk : k + 1 ≤ j := by
        obtain ⟨⟨i', hi', hu'⟩, _⟩ := (h.dom j p).1 (by rw [hb]; simp)
        exact hu'.1
      have e : nodeCells (addN M k q c) T j p = nodeCells M T j p := nodeRow_congr fun i'' hi'' => ⟨addN_other _ _ _ _ (by omega), rfl⟩
      rw [e]; exact h.row j p b hb
  · intro k1 q1 k2 q2 b e1 e2
    by_cases u1 : k1 = k ∧ q1 = q
    · by_cases u2 : k2 = k ∧ q2 = q
      · omega
      · rw [addN_other _ _ _ _ u2] at e2
        rw [u1.1, u1.2, addN_same] at e1
        injection e1 with e1
        subst e1
        exact absurd e2 (hc _ _)
    · rw [addN_other _ _ _ _ u1] at e1
      by_cases u2 : k2 = k ∧ q2 = q
      · rw [u2.1, u2.2, addN_same] at e2
        injection e2 with e2
        subst e2
        exact absurd e1 (hc _ _)
      · rw [addN_other _ _ _ _ u2] at e2
        exact h.inj _ _ _ _ b e1 e2
  · intro j p
    by_cases e : j = k ∧ p = q
    · obtain ⟨rfl, rfl⟩ := e
      rw [addN_same]
      constructor
      · intro _; exact ⟨under_self _ _, hnk⟩
      · intro _; simp
    · rw [addN_other _ _ _ _ e, h.dom]
      constructor
      · rintro ⟨⟨i', hi', hu'⟩, hn'⟩
        exact ⟨under_up hu' hi', hn'⟩
      · rintro ⟨hu, hn'⟩
        rcases under_split hu with h1 | h1
        · exact absurd h1 e
        · exact ⟨h1, hn'⟩
  · intro j p b hb
    by_cases e : j = k ∧ p = q
    · obtain ⟨rfl, rfl⟩ := e
      rw [addN_same] at hb
      injection hb with hb
      omega
    · rw [addN_other _ _ _ _ e] at hb
      exact h.new j p b hb
end Go.Proofs.Ytaecacbapeogdaa
