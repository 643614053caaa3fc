/-
  A counter as functions of groups: what each call answers, and what it leaves. No program is named here.
-/
namespace Go.Proofs.Ytpageadhmgoddaa

/-- What is counted: used, limit, failed, peak. -/
structure Cs where
  u : Int → Int
  l : Int → Int
  f : Int → Int
  p : Int → Int
def isG (x : Int) : Bool := decide (0 ≤ x) && decide (x < 64)
def isA (n : Int) : Bool := decide (0 ≤ n) && decide (n ≤ 1099511627776)
theorem isG_iff {x : Int} : isG x = true ↔ 0 ≤ x ∧ x < 64 := by simp [isG]
theorem isA_iff {x : Int} : isA x = true ↔ 0 ≤ x ∧ x ≤ 1099511627776 := by simp [isA]
theorem isG_no {x : Int} : isG x = false ↔ ¬ (0 ≤ x ∧ x < 64) := by rw [← isG_iff]; simp
theorem isA_no {x : Int} : isA x = false ↔ ¬ (0 ≤ x ∧ x ≤ 1099511627776) := by rw [← isA_iff]; simp
def upd (f : Int → Int) (g v : Int) : Int → Int := fun x => if x = g then v else f x
theorem upd_same (f : Int → Int) (g v : Int) : upd f g v g = v := by simp [upd]
theorem upd_other (f : Int → Int) (v : Int) {g x : Int} (h : x ≠ g) : upd f g v x = f x := by simp [upd, h]

def newC : Cs := ⟨fun _ => 0, fun x => if isG x then 1099511627776 else 0, fun _ => 0, fun _ => 0⟩
def setC (S : Cs) (g n : Int) : Cs := if isG g && isA n then ⟨S.u, upd S.l g n, S.f, S.p⟩ else S
def setE (g n : Int) : Int := if isG g && isA n then 0 else 1
def okL (L : List Int) : Bool := L.all isG && decide L.Nodup
def okC (L : List Int) (n : Int) : Bool := isA n && okL L
def over (S : Cs) (n g : Int) : Bool := decide (0 < n) && decide (S.l g < S.u g + n)
def lack (S : Cs) (n g : Int) : Bool := decide (S.u g < n)
def growC (S : Cs) (L : List Int) (n : Int) : Cs := ⟨fun g => if g ∈ L then S.u g + n else S.u g, S.l, S.f, fun g => if g ∈ L then max (S.p g) (S.u g + n) else S.p g⟩
def shrC (S : Cs) (L : List Int) (n : Int) : Cs := ⟨fun g => if g ∈ L then S.u g - n else S.u g, S.l, S.f, S.p⟩
def failC (S : Cs) (g : Int) : Cs := ⟨S.u, S.l, upd S.f g (S.f g + 1), S.p⟩
def tryC (S : Cs) (L : List Int) (n : Int) : Cs := if okC L n then (match L.find? (over S n) with | some g => failC S g | none => growC S L n) else S
def tryN (S : Cs) (L : List Int) (n : Int) : Int := if okC L n then (match L.find? (over S n) with | some g => g | none => -1) else -1
def tryE (S : Cs) (L : List Int) (n : Int) : Int := if okC L n then (match L.find? (over S n) with | some _ => 22 | none => 0) else 1
def giveC (S : Cs) (L : List Int) (n : Int) : Cs := if okC L n then (match L.find? (lack S n) with | some _ => S | none => shrC S L n) else S
def giveE (S : Cs) (L : List Int) (n : Int) : Int := if okC L n then (match L.find? (lack S n) with | some _ => 2 | none => 0) else 1

/-- What a counter is, behind at most N calls that failed. -/
structure OkC (N : Nat) (S : Cs) : Prop where
  u : ∀ g, 0 ≤ S.u g ∧ S.u g ≤ 1099511627776
  l : ∀ g, 0 ≤ S.l g ∧ S.l g ≤ 1099511627776
  f : ∀ g, 0 ≤ S.f g ∧ S.f g ≤ N
  p : ∀ g, S.u g ≤ S.p g ∧ S.p g ≤ 1099511627776
  out : ∀ g, isG g = false → S.u g = 0 ∧ S.l g = 0 ∧ S.f g = 0 ∧ S.p g = 0
theorem OkC.mono {N M : Nat} {S : Cs} (h : OkC N S) (hm : N ≤ M) : OkC M S := ⟨h.u, h.l, fun g => ⟨(h.f g).1, by have := (h.f g).2; omega⟩, h.p, h.out⟩
theorem ok_new (N : Nat) : OkC N newC := by
  refine ⟨fun g => by simp [newC], fun g => ?_, fun g => by simp [newC], fun g => by simp [newC], fun g hg => by simp [newC, hg]⟩
  simp only [newC]
  split <;> omega
theorem ok_set {N : Nat} {S : Cs} {g n : Int} (h : OkC N S) : OkC N (setC S g n) := by
  unfold setC
  cases hb : (isG g && isA n) with
  | false => exact h
  | true =>
    simp only [Bool.and_eq_true] at hb
    have h1 := isA_iff.1 hb.2
    refine ⟨h.u, fun x => ?_, h.f, h.p, fun x hx => ⟨(h.out x hx).1, ?_, (h.out x hx).2.2⟩⟩
    · simp only [if_true, upd]
      split
      · exact h1
      · exact h.l x
    · simp only [if_true, upd]
      split
      · rename_i e; rw [e, hb.1] at hx; cases hx
      · exact (h.out x hx).2.1
theorem okC_parts {L : List Int} {n : Int} (h : okC L n = true) : (0 ≤ n ∧ n ≤ 1099511627776) ∧ (∀ x ∈ L, 0 ≤ x ∧ x < 64) ∧ L.Nodup := by
  simp only [okC, okL, Bool.and_eq_true, List.all_eq_true, decide_eq_true_eq] at h
  exact ⟨isA_iff.1 h.1, fun x hx => isG_iff.1 (h.2.1 x hx), h.2.2⟩
theorem okC_mk {L : List Int} {n : Int} (h1 : 0 ≤ n ∧ n ≤ 1099511627776) (h2 : ∀ x ∈ L, 0 ≤ x ∧ x < 64) (h3 : L.Nodup) : okC L n = true := by
  simp only [okC, okL, Bool.and_eq_true, List.all_eq_true, decide_eq_true_eq]
  exact ⟨isA_iff.2 h1, fun x hx => isG_iff.2 (h2 x hx), h3⟩
theorem ok_fail {N : Nat} {S : Cs} {g : Int} (h : OkC N S) (hg : isG g = true) : OkC (N + 1) (failC S g) := by
  refine ⟨h.u, h.l, fun x => ?_, h.p, fun x hx => ⟨(h.out x hx).1, (h.out x hx).2.1, ?_, (h.out x hx).2.2.2⟩⟩
  · simp only [failC, upd]
    have := h.f g
    have := h.f x
    split <;> omega
  · simp only [failC, upd]
    split
    · rename_i e; rw [e, hg] at hx; cases hx
    · exact (h.out x hx).2.2.1
theorem ok_grow {N : Nat} {S : Cs} {L : List Int} {n : Int} (h : OkC N S) (hL : okC L n = true) (hn : ∀ g ∈ L, over S n g = false) : OkC N (growC S L n) := by
  obtain ⟨h1, h2, -⟩ := okC_parts hL
  have hb : ∀ g ∈ L, S.u g + n ≤ 1099511627776 := by
    intro g hg
    have h3 := hn g hg
    have := h.u g
    have := h.l g
    by_cases h0 : 0 < n
    · simp only [over, h0, decide_true, Bool.true_and, decide_eq_false_iff_not] at h3
      omega
    · omega
  refine ⟨fun g => ?_, h.l, h.f, fun g => ?_, fun g hg => ?_⟩
  · have := h.u g
    simp only [growC]
    split
    · have := hb g (by assumption); omega
    · omega
  · have := h.u g
    have := h.p g
    simp only [growC]
    split
    · have := hb g (by assumption); omega
    · omega
  · have h3 : g ∉ L := fun hm => by rw [isG_iff.2 (h2 g hm)] at hg; cases hg
    simp only [growC, h3, if_false]
    exact h.out g hg
theorem ok_shr {N : Nat} {S : Cs} {L : List Int} {n : Int} (h : OkC N S) (hL : okC L n = true) (hn : ∀ g ∈ L, lack S n g = false) : OkC N (shrC S L n) := by
  obtain ⟨h1, h2, -⟩ := okC_parts hL
  have hb : ∀ g ∈ L, n ≤ S.u g := by
    intro g hg
    have h3 := hn g hg
    simp only [lack, decide_eq_false_iff_not] at h3
    omega
  refine ⟨fun g => ?_, h.l, h.f, fun g => ?_, fun g hg => ?_⟩
  · have := h.u g
    simp only [shrC]
    split
    · have := hb g (by assumption); omega
    · omega
  · have := h.u g
    have := h.p g
    simp only [shrC]
    split
    · have := hb g (by assumption); omega
    · omega
  · have h3 : g ∉ L := fun hm => by rw [isG_iff.2 (h2 g hm)] at hg; cases hg
    simp only [shrC, h3, if_false]
    exact h.out g hg
theorem find_some {p : Int → Bool} {L : List Int} {g : Int} (h : L.find? p = some g) : g ∈ L ∧ p g = true := ⟨List.mem_of_find?_eq_some h, List.find?_some h⟩
theorem find_none {p : Int → Bool} {L : List Int} (h : L.find? p = none) : ∀ g ∈ L, p g = false := by
  intro g hg
  have := List.find?_eq_none.1 h g hg
  simpa using this
theorem ok_try {N : Nat} {S : Cs} {L : List Int} {n : Int} (h : OkC N S) : OkC (N + 1) (tryC S L n) := by
  unfold tryC
  cases hL : okC L n with
  | false => exact h.mono (by omega)
  | true =>
    simp only [if_true]
    cases hf : L.find? (over S n) with
    | none => exact (ok_grow h hL (find_none hf)).mono (by omega)
    | some g => exact ok_fail h (isG_iff.2 ((okC_parts hL).2.1 g (find_some hf).1))
theorem ok_give {N : Nat} {S : Cs} {L : List Int} {n : Int} (h : OkC N S) : OkC N (giveC S L n) := by
  unfold giveC
  cases hL : okC L n with
  | false => exact h
  | true =>
    simp only [if_true]
    cases hf : L.find? (lack S n) with
    | none => exact ok_shr h hL (find_none hf)
    | some g => exact h

/-- The first that a loop comes to. -/
theorem find_at {p : Int → Bool} {L : List Int} {i : Nat} (hi : i < L.length) (h : p L[i] = true) (hb : ∀ j (hj : j < L.length), j < i → p L[j] = false) : L.find? p = some L[i] := by
  rw [List.find?_eq_some_iff_getElem]
  exact ⟨h, i, hi, rfl, fun j hj => by rw [hb j (by omega) hj]; rfl⟩
theorem find_end {p : Int → Bool} {L : List Int} (hb : ∀ j (hj : j < L.length), p L[j] = false) : L.find? p = none := by
  rw [List.find?_eq_none]
  intro x hx
  obtain ⟨i, hi, rfl⟩ := List.getElem_of_mem hx
  rw [hb i hi]
  exact Bool.false_ne_true
theorem mem_take {L : List Int} {i : Nat} {x : Int} : x ∈ L.take i ↔ ∃ j, ∃ hj : j < L.length, j < i ∧ L[j] = x := by
  rw [List.mem_take_iff_getElem]
  constructor
  · rintro ⟨j, hj, e⟩
    exact ⟨j, by omega, by omega, e⟩
  · rintro ⟨j, h1, h2, e⟩
    exact ⟨j, by omega, e⟩
theorem nodup_at {L : List Int} : L.Nodup ↔ ∀ i (hi : i < L.length), L[i] ∉ L.take i := by
  unfold List.Nodup
  rw [List.pairwise_iff_getElem]
  constructor
  · intro h i hi hm
    obtain ⟨j, h1, h2, e⟩ := mem_take.1 hm
    exact h j i h1 hi h2 e
  · intro h i j hi hj hij e
    exact h j hj (mem_take.2 ⟨i, hi, hij, e⟩)
/-- What is wrong with a chain, as it is looked through. -/
def bad (L : List Int) (i : Nat) : Bool := !isG (L.getD i 0) || decide (L.getD i 0 ∈ L.take i)
theorem okL_bad {L : List Int} {i : Nat} (hi : i < L.length) (h : bad L i = true) : okL L = false := by
  cases hk : okL L with
  | false => rfl
  | true =>
    simp only [okL, Bool.and_eq_true, List.all_eq_true, decide_eq_true_eq] at hk
    simp only [bad, Bool.or_eq_true, Bool.not_eq_true', decide_eq_true_eq] at h
    have e : L.getD i 0 = L[i] := by simp [hi]
    rw [e] at h
    rcases h with h | h
    · rw [hk.1 _ (List.getElem_mem hi)] at h; cases h
    · exact absurd h (nodup_at.1 hk.2 i hi)
theorem okL_good {L : List Int} (h : ∀ i, i < L.length → bad L i = false) : okL L = true := by
  simp only [okL, Bool.and_eq_true, List.all_eq_true, decide_eq_true_eq]
  constructor
  · intro x hx
    obtain ⟨i, hi, rfl⟩ := List.getElem_of_mem hx
    have := h i hi
    have e : L.getD i 0 = L[i] := by simp [hi]
    simp only [bad, e, Bool.or_eq_false_iff, Bool.not_eq_false'] at this
    exact this.1
  · refine nodup_at.2 fun i hi => ?_
    have := h i hi
    have e : L.getD i 0 = L[i] := by simp [hi]
    simp only [bad, e, Bool.or_eq_false_iff, decide_eq_false_iff_not] at this
    exact this.2

/-- One more of a chain counted. -/
theorem grow_nil (S : Cs) (n : Int) : growC S [] n = S := by simp [growC]
theorem shr_nil (S : Cs) (n : Int) : shrC S [] n = S := by simp [shrC]
theorem grow_take {S : Cs} {L : List Int} {n : Int} {i : Nat} (hd : L.Nodup) (hi : i < L.length) :
    growC S (L.take (i + 1)) n = ⟨upd (growC S (L.take i) n).u L[i] (S.u L[i] + n), S.l, S.f, upd (growC S (L.take i) n).p L[i] (max (S.p L[i]) (S.u L[i] + n))⟩ ∧ (growC S (L.take i) n).u L[i] = S.u L[i] ∧ (growC S (L.take i) n).p L[i] = S.p L[i] := by
  have hm := nodup_at.1 hd i hi
  refine ⟨?_, by simp [growC, hm], by simp [growC, hm]⟩
  simp only [growC]
  congr 1
  · funext g
    simp only [List.take_succ_eq_append_getElem hi, List.mem_append, List.mem_singleton, upd]
    by_cases hg : g = L[i]
    · subst hg; simp
    · simp [hg]
  · funext g
    simp only [List.take_succ_eq_append_getElem hi, List.mem_append, List.mem_singleton, upd]
    by_cases hg : g = L[i]
    · subst hg; simp
    · simp [hg]
theorem shr_take {S : Cs} {L : List Int} {n : Int} {i : Nat} (hd : L.Nodup) (hi : i < L.length) :
    shrC S (L.take (i + 1)) n = ⟨upd (shrC S (L.take i) n).u L[i] (S.u L[i] - n), S.l, S.f, S.p⟩ ∧ (shrC S (L.take i) n).u L[i] = S.u L[i] := by
  have hm := nodup_at.1 hd i hi
  refine ⟨?_, by simp [shrC, hm]⟩
  simp only [shrC]
  congr 1
  funext g
  simp only [List.take_succ_eq_append_getElem hi, List.mem_append, List.mem_singleton, upd]
  by_cases hg : g = L[i]
  · subst hg; simp
  · simp [hg]

/-- What a Try does, told. -/
theorem try_bad {S : Cs} {L : List Int} {n : Int} (h : okC L n = false) : tryC S L n = S ∧ tryN S L n = -1 ∧ tryE S L n = 1 := by simp [tryC, tryN, tryE, h]
theorem try_fail {S : Cs} {L : List Int} {n g : Int} (h : okC L n = true) (hf : L.find? (over S n) = some g) : tryC S L n = failC S g ∧ tryN S L n = g ∧ tryE S L n = 22 := by simp [tryC, tryN, tryE, h, hf]
theorem try_ok {S : Cs} {L : List Int} {n : Int} (h : okC L n = true) (hf : L.find? (over S n) = none) : tryC S L n = growC S L n ∧ tryN S L n = -1 ∧ tryE S L n = 0 := by simp [tryC, tryN, tryE, h, hf]
theorem give_bad {S : Cs} {L : List Int} {n : Int} (h : okC L n = false) : giveC S L n = S ∧ giveE S L n = 1 := by simp [giveC, giveE, h]
theorem give_fail {S : Cs} {L : List Int} {n g : Int} (h : okC L n = true) (hf : L.find? (lack S n) = some g) : giveC S L n = S ∧ giveE S L n = 2 := by simp [giveC, giveE, h, hf]
theorem give_ok {S : Cs} {L : List Int} {n : Int} (h : okC L n = true) (hf : L.find? (lack S n) = none) : giveC S L n = shrC S L n ∧ giveE S L n = 0 := by simp [giveC, giveE, h, hf]
end Go.Proofs.Ytpageadhmgoddaa
