/-
  Counts, beginnings of a page's digits, tables told as functions, what is walked: no program, no memory.
-/
namespace Go.Proofs.Ytaecacbapeogdaa

/-! ### counts -/
theorem nodup_le {α : Type} [DecidableEq α] {l l' : List α} (h : l.Nodup) (hs : ∀ x ∈ l, x ∈ l') : l.length ≤ l'.length := by
  induction l generalizing l' with
  | nil => simp
  | cons x l ih =>
    have hx : x ∈ l' := hs x (by simp)
    have hn := List.nodup_cons.1 h
    have h1 := ih (l' := l'.erase x) hn.2 (fun y hy => by
      have : y ≠ x := fun e => hn.1 (e ▸ hy)
      exact (List.mem_erase_of_ne this).2 (hs y (by simp [hy])))
    rw [List.length_erase_of_mem hx] at h1
    have : 0 < l'.length := List.length_pos_of_mem hx
    simp
    omega
def IsCnt {α : Type} (P : α → Prop) (c : Nat) : Prop := ∃ l : List α, l.Nodup ∧ l.length = c ∧ ∀ x, x ∈ l ↔ P x
section
variable {α : Type} {P Q : α → Prop} {c d : Nat}
theorem IsCnt.congr (h : IsCnt P c) (he : ∀ x, P x ↔ Q x) : IsCnt Q c := by
  obtain ⟨l, h1, h2, h3⟩ := h
  exact ⟨l, h1, h2, fun x => (h3 x).trans (he x)⟩
theorem IsCnt.le [DecidableEq α] (h : IsCnt P c) (k : IsCnt Q d) (hs : ∀ x, P x → Q x) : c ≤ d := by
  obtain ⟨l, h1, rfl, h3⟩ := h
  obtain ⟨m, k1, rfl, k3⟩ := k
  exact nodup_le h1 fun x hx => (k3 x).2 (hs x ((h3 x).1 hx))
theorem IsCnt.unique [DecidableEq α] (h : IsCnt P c) (k : IsCnt Q d) (he : ∀ x, P x ↔ Q x) : c = d :=
  Nat.le_antisymm (h.le k fun x => (he x).1) (k.le h fun x => (he x).2)
theorem IsCnt.add (h : IsCnt P c) {x : α} (hx : ¬ P x) (he : ∀ y, Q y ↔ P y ∨ y = x) : IsCnt Q (c + 1) := by
  obtain ⟨l, h1, rfl, h3⟩ := h
  refine ⟨x :: l, List.nodup_cons.2 ⟨fun hm => hx ((h3 x).1 hm), h1⟩, rfl, fun y => ?_⟩
  rw [List.mem_cons, h3, he]
  exact Or.comm
theorem IsCnt.del [DecidableEq α] (h : IsCnt P (c + 1)) {x : α} (hx : P x) (he : ∀ y, Q y ↔ P y ∧ y ≠ x) : IsCnt Q c := by
  obtain ⟨l, h1, h2, h3⟩ := h
  refine ⟨l.erase x, h1.erase x, ?_, fun y => ?_⟩
  · rw [List.length_erase_of_mem ((h3 x).2 hx), h2]; rfl
  · rw [h1.mem_erase_iff, h3, he]
    exact And.comm
theorem IsCnt.del' [DecidableEq α] (h : IsCnt P c) {x : α} (hx : P x) (he : ∀ y, Q y ↔ P y ∧ y ≠ x) : ∃ d, c = d + 1 ∧ IsCnt Q d := by
  cases c with
  | zero =>
    obtain ⟨l, h1, h2, h3⟩ := h
    have := (h3 x).2 hx
    rw [List.eq_nil_of_length_eq_zero h2] at this
    cases this
  | succ c => exact ⟨c, rfl, h.del hx he⟩
theorem IsCnt.none (h : ∀ x, ¬ P x) : IsCnt P 0 := ⟨[], List.nodup_nil, rfl, fun x => by simp [h x]⟩
theorem IsCnt.zero (h : IsCnt P 0) (x : α) : ¬ P x := by
  obtain ⟨l, h1, h2, h3⟩ := h
  rw [← h3, List.eq_nil_of_length_eq_zero h2]
  simp
theorem IsCnt.pos (h : IsCnt P c) {x : α} (hx : P x) : 0 < c := by
  cases c with
  | zero => exact absurd hx (h.zero x)
  | succ c => omega
theorem IsCnt.le_list [DecidableEq α] (h : IsCnt P c) (l : List α) (hs : ∀ x, P x → x ∈ l) : c ≤ l.length := by
  obtain ⟨m, h1, rfl, h3⟩ := h
  exact nodup_le h1 fun x hx => hs x ((h3 x).1 hx)
theorem IsCnt.ge_list [DecidableEq α] (h : IsCnt P c) (l : List α) (hl : l.Nodup) (hs : ∀ x ∈ l, P x) : l.length ≤ c := by
  obtain ⟨m, h1, rfl, h3⟩ := h
  exact nodup_le hl fun x hx => (h3 x).2 (hs x hx)
end

/-! ### beginnings -/
/-- The first k digits of a page. -/
def pg (p k : Nat) : Nat := p / 16 ^ (4 - k)
/-- Its digit k, the highest is digit 0. -/
def dg (p k : Nat) : Nat := pg p (k + 1) % 16
theorem pg_up (p : Nat) {k : Nat} (h : k ≤ 3) : pg p k = pg p (k + 1) / 16 := by
  unfold pg
  rw [Nat.div_div_eq_div_mul, ← Nat.pow_succ]
  congr 2
  omega
theorem pg_step (p : Nat) {k : Nat} (h : k ≤ 3) : pg p (k + 1) = 16 * pg p k + dg p k := by
  rw [pg_up p h]
  unfold dg
  omega
theorem dg_lt (p k : Nat) : dg p k < 16 := Nat.mod_lt _ (by omega)
theorem pg_four (p : Nat) : pg p 4 = p := by simp [pg]
theorem pg_three (p : Nat) : pg p 3 = p / 16 := by simp [pg]
theorem pg_two (p : Nat) : pg p 2 = p / 256 := by simp [pg]
theorem pg_one (p : Nat) : pg p 1 = p / 4096 := by simp [pg]
theorem pg_zero {p : Nat} (h : p < 65536) : pg p 0 = 0 := by simp [pg]; omega
theorem pg_lt {p : Nat} (h : p < 65536) (k : Nat) (hk : k ≤ 4) : pg p k < 16 ^ k := by
  unfold pg
  rw [Nat.div_lt_iff_lt_mul (Nat.pow_pos (by omega)), ← Nat.pow_add]
  have : k + (4 - k) = 4 := by omega
  rw [this]
  exact h
theorem pair_eq {q i q' i' : Nat} (hi : i < 16) (hi' : i' < 16) (h : 16 * q + i = 16 * q' + i') : q = q' ∧ i = i' := by omega

/-! ### tables as functions -/
abbrev Tab := Nat → Option Int
def Fits (W : Tab) : Prop := ∀ p, W p ≠ none → p < 65536
def setW (W : Tab) (p : Nat) (x : Int) : Tab := fun q => if q = p then some x else W q
def delW (W : Tab) (p : Nat) : Tab := fun q => if q = p then none else W q
def ex (W : Tab) (k q : Nat) : Prop := ∃ p, W p ≠ none ∧ pg p k = q
theorem setW_same (W : Tab) (p : Nat) (x : Int) : setW W p x p = some x := by simp [setW]
theorem setW_other (W : Tab) {p q : Nat} (x : Int) (h : q ≠ p) : setW W p x q = W q := by simp [setW, h]
theorem delW_same (W : Tab) (p : Nat) : delW W p p = none := by simp [delW]
theorem delW_other (W : Tab) {p q : Nat} (h : q ≠ p) : delW W p q = W q := by simp [delW, h]
theorem setW_ne {W : Tab} {p q : Nat} {x : Int} : setW W p x q ≠ none ↔ W q ≠ none ∨ q = p := by
  unfold setW
  by_cases h : q = p <;> simp [h]
theorem delW_ne {W : Tab} {p q : Nat} : delW W p q ≠ none ↔ W q ≠ none ∧ q ≠ p := by
  unfold delW
  by_cases h : q = p <;> simp [h]
theorem Fits.set {W : Tab} (h : Fits W) {p : Nat} (hp : p < 65536) (x : Int) : Fits (setW W p x) := by
  intro q hq
  rcases setW_ne.1 hq with hq | rfl
  · exact h q hq
  · exact hp
theorem Fits.del {W : Tab} (h : Fits W) (p : Nat) : Fits (delW W p) := fun q hq => h q (delW_ne.1 hq).1
theorem ex_set {W : Tab} {p k q : Nat} {x : Int} : ex (setW W p x) k q ↔ ex W k q ∨ q = pg p k := by
  constructor
  · rintro ⟨r, hr, hq⟩
    rcases setW_ne.1 hr with h | rfl
    · exact .inl ⟨r, h, hq⟩
    · exact .inr hq.symm
  · rintro (⟨r, hr, hq⟩ | rfl)
    · exact ⟨r, setW_ne.2 (.inl hr), hq⟩
    · exact ⟨p, setW_ne.2 (.inr rfl), rfl⟩
theorem ex_of {W : Tab} {p : Nat} (h : W p ≠ none) (k : Nat) : ex W k (pg p k) := ⟨p, h, rfl⟩
theorem ex_four {W : Tab} {q : Nat} : ex W 4 q ↔ W q ≠ none := by
  constructor
  · rintro ⟨p, h, rfl⟩
    rw [pg_four]; exact h
  · intro h
    exact ⟨q, h, pg_four q⟩
theorem ex_up {W : Tab} {k q : Nat} (hk : k ≤ 3) (h : ex W (k + 1) q) : ex W k (q / 16) := by
  obtain ⟨p, h1, rfl⟩ := h
  exact ⟨p, h1, pg_up p hk⟩
theorem ex_down {W : Tab} {k q : Nat} (hk : k ≤ 3) : ex W k q ↔ ∃ i, i < 16 ∧ ex W (k + 1) (16 * q + i) := by
  constructor
  · rintro ⟨p, h, rfl⟩
    exact ⟨dg p k, dg_lt p k, p, h, pg_step p hk⟩
  · rintro ⟨i, hi, h⟩
    have := ex_up hk h
    have e : (16 * q + i) / 16 = q := by omega
    rw [e] at this
    exact this
theorem ex_del_of {W : Tab} {p k q : Nat} (h : ex (delW W p) k q) : ex W k q := by
  obtain ⟨r, h1, h2⟩ := h
  exact ⟨r, (delW_ne.1 h1).1, h2⟩
theorem ex_del_other {W : Tab} {p k q : Nat} (h : ex W k q) (hq : q ≠ pg p k) : ex (delW W p) k q := by
  obtain ⟨r, h1, rfl⟩ := h
  exact ⟨r, delW_ne.2 ⟨h1, fun e => hq (by rw [e])⟩, rfl⟩
theorem ex_lt {W : Tab} (hf : Fits W) {k q : Nat} (hk : k ≤ 4) (h : ex W k q) : q < 16 ^ k := by
  obtain ⟨p, h1, rfl⟩ := h
  exact pg_lt (hf p h1) k hk

/-- How many words, how many nodes beside the root. -/
structure Cnts (W : Tab) (n m : Nat) : Prop where
  n : IsCnt (fun p => W p ≠ none) n
  m : IsCnt (fun x : Nat × Nat => (1 ≤ x.1 ∧ x.1 ≤ 3) ∧ ex W x.1 x.2) m
theorem Cnts.unique {W : Tab} {n m n' m' : Nat} (h : Cnts W n m) (k : Cnts W n' m') : n = n' ∧ m = m' :=
  ⟨h.n.unique k.n fun _ => Iff.rfl, h.m.unique k.m fun _ => Iff.rfl⟩
theorem Cnts.le3 {W : Tab} {n m : Nat} (h : Cnts W n m) : m ≤ 3 * n := by
  obtain ⟨l, h1, h2, h3⟩ := h.n
  have := h.m.le_list (l.map (fun p => (1, pg p 1)) ++ (l.map (fun p => (2, pg p 2)) ++ l.map (fun p => (3, pg p 3)))) (by
    rintro ⟨k, q⟩ ⟨⟨k1, k2⟩, p, hp, hq⟩
    simp only at hq
    subst hq
    have hp' := (h3 p).2 hp
    have : k = 1 ∨ k = 2 ∨ k = 3 := by simp only at k1 k2; omega
    rcases this with rfl | rfl | rfl <;> simp <;> exact ⟨p, hp', rfl⟩)
  simp at this
  omega
theorem Cnts.ge3 {W : Tab} {n m : Nat} (h : Cnts W n m) (hn : 0 < n) : 3 ≤ m := by
  obtain ⟨l, h1, h2, h3⟩ := h.n
  cases l with
  | nil => simp at h2; omega
  | cons p l =>
    have hp := (h3 p).1 (by simp)
    exact h.m.ge_list [(1, pg p 1), (2, pg p 2), (3, pg p 3)] (by simp) (by
      intro x hx
      simp at hx
      rcases hx with rfl | rfl | rfl <;> exact ⟨by simp, ex_of hp _⟩)
theorem Cnts.zero {W : Tab} {n m : Nat} (h : Cnts W n m) (hn : ∀ p, W p = none) : n = 0 ∧ m = 0 := by
  have h1 : n = 0 := h.n.unique (IsCnt.none (P := fun _ : Nat => False) (fun _ h => h)) (fun x => by simp [hn x])
  have := h.le3
  omega
theorem Cnts.set_bounds {W : Tab} {n m n' m' p : Nat} {x : Int} (h : Cnts W n m) (k : Cnts (setW W p x) n' m') : m ≤ m' ∧ m' ≤ m + 3 := by
  constructor
  · exact h.m.le k.m fun y hy => ⟨hy.1, ex_set.2 (.inl hy.2)⟩
  · obtain ⟨l, h1, h2, h3⟩ := h.m
    have := k.m.le_list (l ++ [(1, pg p 1), (2, pg p 2), (3, pg p 3)]) (by
      rintro ⟨j, q⟩ ⟨⟨k1, k2⟩, hq⟩
      rcases ex_set.1 hq with hq | hq
      · exact List.mem_append.2 (.inl ((h3 _).2 ⟨⟨k1, k2⟩, hq⟩))
      · have : j = 1 ∨ j = 2 ∨ j = 3 := by simp only at k1 k2; omega
        simp only at hq
        rcases this with rfl | rfl | rfl <;> simp [hq])
    simp at this
    omega

/-! ### what is walked -/
/-- The pages that have a word, from one number on up to ahead of another, rising. -/
structure IsWalk (W : Tab) (a b : Int) (l : List Nat) : Prop where
  up : l.Pairwise (· < ·)
  mem : ∀ p : Nat, p ∈ l ↔ W p ≠ none ∧ a ≤ (p : Int) ∧ (p : Int) < b
theorem sorted_unique {l m : List Nat} (hl : l.Pairwise (· < ·)) (hm : m.Pairwise (· < ·)) (h : ∀ p, p ∈ l ↔ p ∈ m) : l = m := by
  induction l generalizing m with
  | nil =>
    cases m with
    | nil => rfl
    | cons y m => exact absurd ((h y).2 (by simp)) (by simp)
  | cons x l ih =>
    cases m with
    | nil => exact absurd ((h x).1 (by simp)) (by simp)
    | cons y m =>
      have hl' := List.pairwise_cons.1 hl
      have hm' := List.pairwise_cons.1 hm
      have hxy : x = y := by
        have h1 := (h x).1 (by simp)
        have h2 := (h y).2 (by simp)
        rcases List.mem_cons.1 h1 with e | e
        · exact e
        · rcases List.mem_cons.1 h2 with e' | e'
          · exact e'.symm
          · have := hl'.1 y e'
            have := hm'.1 x e
            omega
      subst hxy
      congr 1
      refine ih hl'.2 hm'.2 fun p => ?_
      constructor
      · intro hp
        have hx := hl'.1 p hp
        rcases List.mem_cons.1 ((h p).1 (by simp [hp])) with e | e
        · omega
        · exact e
      · intro hp
        have hx := hm'.1 p hp
        rcases List.mem_cons.1 ((h p).2 (by simp [hp])) with e | e
        · omega
        · exact e
theorem IsWalk.unique {W : Tab} {a b : Int} {l m : List Nat} (h : IsWalk W a b l) (k : IsWalk W a b m) : l = m :=
  sorted_unique h.up k.up fun p => (h.mem p).trans (k.mem p).symm
theorem IsWalk.join {W : Tab} {a b c : Int} {l m : List Nat} (h : IsWalk W a b l) (k : IsWalk W b c m) (h1 : a ≤ b) (h2 : b ≤ c) : IsWalk W a c (l ++ m) := by
  refine ⟨List.pairwise_append.2 ⟨h.up, k.up, fun x hx y hy => ?_⟩, fun p => ?_⟩
  · have := (h.mem x).1 hx
    have := (k.mem y).1 hy
    omega
  · rw [List.mem_append, h.mem, k.mem]
    constructor
    · rintro (⟨x, y, z⟩ | ⟨x, y, z⟩)
      · exact ⟨x, by omega, by omega⟩
      · exact ⟨x, by omega, by omega⟩
    · rintro ⟨x, y, z⟩
      by_cases hb : (p : Int) < b
      · exact .inl ⟨x, y, hb⟩
      · exact .inr ⟨x, by omega, z⟩
theorem IsWalk.length {W : Tab} {n m : Nat} {l : List Nat} (h : IsWalk W 0 65536 l) (hf : Fits W) (hc : Cnts W n m) : l.length = n := by
  have : IsCnt (fun p => W p ≠ none) l.length := by
    refine ⟨l, h.up.imp (fun h => Nat.ne_of_lt h), rfl, fun p => ?_⟩
    rw [h.mem]
    constructor
    · exact fun h => h.1
    · intro hp
      have := hf p hp
      exact ⟨hp, by omega, by omega⟩
  exact this.unique hc.n fun _ => Iff.rfl
theorem IsWalk.short {W : Tab} {n m : Nat} {a b : Int} {l : List Nat} (h : IsWalk W a b l) (hc : Cnts W n m) : l.length ≤ n := by
  obtain ⟨k, h1, rfl, h3⟩ := hc.n
  exact nodup_le (h.up.imp (fun h => Nat.ne_of_lt h)) fun x hx => (h3 x).2 ((h.mem x).1 hx).1
end Go.Proofs.Ytaecacbapeogdaa
