/-
  Regions and lists of them: what may be, what is found, added, cut. No program is named here.
-/
import Derived.WalkKit
namespace Go.Proofs.Ytagobeoabkbhaaa

structure Rg where
  f : Int
  t : Int
  k : Int
  fi : Int
  ix : Int
  wr : Bool

def zeroR : Rg := ⟨0, 0, 0, 0, 0, false⟩
def eqR (x y : Rg) : Bool := x.f == y.f && (x.t == y.t && (x.k == y.k && (x.fi == y.fi && (x.ix == y.ix && x.wr == y.wr))))
theorem eqR_iff (x y : Rg) : eqR x y = true ↔ x = y := by
  cases x; cases y
  simp [eqR]
theorem eqR_same (x : Rg) : eqR x x = true := (eqR_iff x x).2 rfl
def sameL : List Rg → List Rg → Bool
  | [], [] => true
  | x :: A, y :: B => eqR x y && sameL A B
  | _, _ => false
theorem sameL_iff (A B : List Rg) : sameL A B = true ↔ A = B := by
  induction A generalizing B with
  | nil => cases B <;> simp [sameL]
  | cons x A ih => cases B <;> simp [sameL, eqR_iff, ih]
theorem sameL_same (A : List Rg) : sameL A A = true := (sameL_iff A A).2 rfl

/-- A region that may be. -/
def Vd (x : Rg) : Prop := 0 ≤ x.f ∧ x.f < x.t ∧ x.t ≤ 65536 ∧ (x.k = 1 ∧ x.fi = 0 ∧ x.ix = 0 ∨ x.k = 2 ∧ 0 ≤ x.fi ∧ x.fi ≤ 1048576 ∧ 0 ≤ x.ix ∧ x.ix + x.t - x.f ≤ 2097152)
def vd (x : Rg) : Bool := decide (0 ≤ x.f ∧ x.f < x.t ∧ x.t ≤ 65536 ∧ (x.k = 1 ∧ x.fi = 0 ∧ x.ix = 0 ∨ x.k = 2 ∧ 0 ≤ x.fi ∧ x.fi ≤ 1048576 ∧ 0 ≤ x.ix ∧ x.ix + x.t - x.f ≤ 2097152))
theorem vd_iff (x : Rg) : vd x = true ↔ Vd x := by simp [vd, Vd]
theorem vd_no {x : Rg} (h : ¬ Vd x) : vd x = false := by
  cases hv : vd x with
  | false => rfl
  | true => exact absurd ((vd_iff x).1 hv) h

def rt : Int → List Rg → Bool
  | _, [] => true
  | e, x :: L => vd x && (!decide (x.f < e) && rt x.t L)
/-- A list that may be. -/
def RL (L : List Rg) : Prop := (∀ x ∈ L, Vd x) ∧ L.Pairwise fun x y => x.t ≤ y.f
theorem rt_iffE (e : Int) (L : List Rg) : rt e L = true ↔ RL L ∧ ∀ x ∈ L, e ≤ x.f := by
  induction L generalizing e with
  | nil => simp [rt, RL]
  | cons x L ih =>
    simp only [rt, Bool.and_eq_true, vd_iff, ih, RL, List.pairwise_cons, List.mem_cons, Bool.not_eq_true', decide_eq_false_iff_not, Int.not_lt]
    constructor
    · rintro ⟨h1, h2, ⟨h3, h4⟩, h5⟩
      refine ⟨⟨?_, h5, h4⟩, ?_⟩
      · rintro y (rfl | hy)
        · exact h1
        · exact h3 y hy
      · rintro y (rfl | hy)
        · exact h2
        · have := h5 y hy
          have := h1.2.1
          omega
    · rintro ⟨⟨h1, h2, h3⟩, h4⟩
      exact ⟨h1 x (Or.inl rfl), h4 x (Or.inl rfl), ⟨fun y hy => h1 y (Or.inr hy), h3⟩, h2⟩
theorem rt_iff (L : List Rg) : rt 0 L = true ↔ RL L := by
  rw [rt_iffE]
  exact ⟨fun h => h.1, fun h => ⟨h, fun x hx => (h.1 x hx).1⟩⟩
theorem rt_nil : rt 0 [] = true := rfl
theorem RL.tail {x : Rg} {L : List Rg} (h : RL (x :: L)) : RL L := ⟨fun y hy => h.1 y (List.mem_cons_of_mem _ hy), (List.pairwise_cons.1 h.2).2⟩
theorem RL.nil : RL [] := ⟨fun x hx => (by cases hx), List.Pairwise.nil⟩
theorem RL.vd {L : List Rg} (h : RL L) {j : Nat} (hj : j < L.length) : Vd L[j] := h.1 _ (List.getElem_mem hj)
theorem RL.lt {L : List Rg} (h : RL L) {i j : Nat} (hj : j < L.length) (hij : i < j) : (L[i]'(by omega)).t ≤ L[j].f := List.pairwise_iff_getElem.1 h.2 i j (by omega) hj hij

/-- Two lists that may be, of the same regions, are the same. -/
theorem RL.ext {A B : List Rg} (hA : RL A) (hB : RL B) (h : ∀ z, z ∈ A ↔ z ∈ B) : A = B := by
  induction A generalizing B with
  | nil =>
    cases B with
    | nil => rfl
    | cons y B => exact absurd ((h y).2 List.mem_cons_self) (by simp)
  | cons x A ih =>
    cases B with
    | nil => exact absurd ((h x).1 List.mem_cons_self) (by simp)
    | cons y B =>
      have pA := (List.pairwise_cons.1 hA.2).1
      have pB := (List.pairwise_cons.1 hB.2).1
      have vx := hA.1 x List.mem_cons_self
      have vy := hB.1 y List.mem_cons_self
      have hxy : x = y := by
        rcases List.mem_cons.1 ((h x).1 List.mem_cons_self) with h1 | h1
        · exact h1
        · rcases List.mem_cons.1 ((h y).2 List.mem_cons_self) with h2 | h2
          · exact h2.symm
          · have := pA y h2
            have := pB x h1
            have := vx.2.1
            have := vy.2.1
            omega
      subst hxy
      rw [ih hA.tail hB.tail]
      intro z
      constructor
      · intro hz
        rcases List.mem_cons.1 ((h z).1 (List.mem_cons_of_mem _ hz)) with h1 | h1
        · subst h1
          have := pA z hz
          have := vx.2.1
          omega
        · exact h1
      · intro hz
        rcases List.mem_cons.1 ((h z).2 (List.mem_cons_of_mem _ hz)) with h1 | h1
        · subst h1
          have := pB z hz
          have := vx.2.1
          omega
        · exact h1

/-! ### found -/
def has (x : Rg) (p : Int) : Bool := decide (x.f ≤ p) && decide (p < x.t)
theorem has_iff (x : Rg) (p : Int) : has x p = true ↔ x.f ≤ p ∧ p < x.t := by simp [has]
def fd (L : List Rg) (p : Int) : Option Rg := L.find? fun x => has x p
def fnd (L : List Rg) (p : Int) : Option Rg := if rt 0 L = true then fd L p else none
def fV (o : Option Rg) : Rg := o.getD zeroR
theorem fd_mem {L : List Rg} (h : RL L) {x : Rg} {p : Int} (hx : x ∈ L) (hp : x.f ≤ p ∧ p < x.t) : fd L p = some x := by
  induction L with
  | nil => cases hx
  | cons y L ih =>
    unfold fd
    rw [List.find?_cons]
    cases hy : has y p with
    | true =>
      rcases List.mem_cons.1 hx with h1 | h1
      · rw [h1]
      · have := (List.pairwise_cons.1 h.2).1 x h1
        have := (has_iff y p).1 hy
        omega
    | false =>
      rcases List.mem_cons.1 hx with h1 | h1
      · subst h1
        rw [(has_iff x p).2 hp] at hy
        cases hy
      · exact ih h.tail h1
theorem fd_none {L : List Rg} {p : Int} (h : ∀ x ∈ L, ¬ (x.f ≤ p ∧ p < x.t)) : fd L p = none := by
  unfold fd
  rw [List.find?_eq_none]
  intro x hx hh
  exact h x hx ((has_iff x p).1 hh)
theorem fd_some {L : List Rg} {p : Int} {x : Rg} (h : fd L p = some x) : x ∈ L ∧ x.f ≤ p ∧ p < x.t :=
  ⟨List.mem_of_find?_eq_some h, (has_iff x p).1 (List.find?_some (p := fun x => has x p) h)⟩
theorem fd_no {L : List Rg} {p : Int} (h : fd L p = none) : ∀ x ∈ L, ¬ (x.f ≤ p ∧ p < x.t) := by
  intro x hx hp
  unfold fd at h
  rw [List.find?_eq_none] at h
  exact h x hx ((has_iff x p).2 hp)
theorem fnd_right {L : List Rg} (h : RL L) (p : Int) : fnd L p = fd L p := by unfold fnd; rw [if_pos ((rt_iff L).2 h)]

/-- How many end no later than at p. -/
def bh (L : List Rg) (p : Int) : Nat := (L.takeWhile fun x => decide (x.t ≤ p)).length
theorem bh_uniq {L : List Rg} {p : Int} {a : Nat} (ha : a ≤ L.length) (h1 : ∀ k (h : k < L.length), k < a → L[k].t ≤ p) (h2 : ∀ h : a < L.length, p < L[a].t) : bh L p = a := by
  induction L generalizing a with
  | nil => simp [bh] at ha ⊢; omega
  | cons x L ih =>
    cases a with
    | zero =>
      have := h2 (by simp)
      simp at this
      unfold bh
      rw [List.takeWhile_cons_of_neg (by simp; omega)]
      rfl
    | succ a =>
      have h0 := h1 0 (by simp) (by omega)
      simp at h0
      unfold bh
      rw [List.takeWhile_cons_of_pos (by simp; omega), List.length_cons]
      have := ih (a := a) (by simpa using ha) (fun k hk hka => by have := h1 (k + 1) (by simp; omega) (by omega); simpa using this) (fun h => by have := h2 (by simp; omega); simpa using this)
      unfold bh at this
      omega
theorem bh_le (L : List Rg) (p : Int) : bh L p ≤ L.length := by
  induction L with
  | nil => simp [bh]
  | cons x L ih =>
    unfold bh at ih ⊢
    by_cases h : x.t ≤ p
    · rw [List.takeWhile_cons_of_pos (by simp; omega)]
      simp only [List.length_cons]
      omega
    · rw [List.takeWhile_cons_of_neg (by simp; omega)]
      simp
theorem bh_lt (L : List Rg) (p : Int) : ∀ k (h : k < L.length), k < bh L p → L[k].t ≤ p := by
  induction L with
  | nil => intro k h; simp at h
  | cons x L ih =>
    intro k hk hkb
    unfold bh at hkb
    by_cases h : x.t ≤ p
    · rw [List.takeWhile_cons_of_pos (by simp; omega)] at hkb
      cases k with
      | zero => simpa using h
      | succ k => simpa using ih k (by simpa using hk) (by simpa [bh] using hkb)
    · rw [List.takeWhile_cons_of_neg (by simp; omega)] at hkb
      simp at hkb
theorem bh_at (L : List Rg) (p : Int) : ∀ h : bh L p < L.length, p < L[bh L p].t := by
  induction L with
  | nil => intro h; simp at h
  | cons x L ih =>
    intro hb
    by_cases h : x.t ≤ p
    · have e : bh (x :: L) p = bh L p + 1 := by
        unfold bh
        rw [List.takeWhile_cons_of_pos (by simp; omega)]
        simp
      have hb' := hb
      rw [e] at hb'
      have := ih (by simpa using hb')
      simpa [e] using this
    · have e : bh (x :: L) p = 0 := by
        unfold bh
        rw [List.takeWhile_cons_of_neg (by simp; omega)]
        rfl
      simp [e]
      omega
theorem bh_ge {L : List Rg} (h : RL L) (p : Int) (k : Nat) (hk : k < L.length) (hb : bh L p ≤ k) : p < L[k].t := by
  have h0 := bh_at L p (by omega)
  rcases Nat.lt_or_eq_of_le hb with h1 | h1
  · have := h.lt hk h1
    have := (h.vd hk).2.1
    omega
  · simpa [← h1] using h0
/-- What is found stands where the search ends, or nowhere. -/
theorem fd_at {L : List Rg} (h : RL L) (p : Int) : (∀ hb : bh L p < L.length, L[bh L p].f ≤ p → fd L p = some L[bh L p]) ∧ ((∀ hb : bh L p < L.length, p < L[bh L p].f) → fd L p = none) := by
  constructor
  · intro hb hf
    exact fd_mem h (List.getElem_mem hb) ⟨hf, bh_at L p hb⟩
  · intro hf
    apply fd_none
    intro x hx hp
    obtain ⟨k, hk, rfl⟩ := List.getElem_of_mem hx
    by_cases hkb : k < bh L p
    · have := bh_lt L p k hk hkb
      omega
    · have hb : bh L p < L.length := by omega
      have h1 := hf hb
      rcases Nat.lt_or_eq_of_le (Nat.not_lt.1 hkb) with h2 | h2
      · have := h.lt hk h2
        have := (h.vd hb).2.1
        omega
      · have e : L[k] = L[bh L p] := by simp [← h2]
        rw [e] at hp
        omega

/-! ### added -/
def bz (L : List Rg) (x : Rg) : Bool := match L[bh L x.f]? with
  | none => false
  | some y => decide (y.f < x.t)
def addL (L : List Rg) (x : Rg) : List Rg := L.take (bh L x.f) ++ x :: L.drop (bh L x.f)
def addArg (L : List Rg) (x : Rg) : Bool := rt 0 L && (vd x && decide (L.length < 64))
def addE (L : List Rg) (x : Rg) : Int := if addArg L x then (if bz L x then 4 else 0) else 1
def addR (L : List Rg) (x : Rg) : List Rg := if addArg L x && !bz L x then addL L x else []
theorem mem_addL (L : List Rg) (x z : Rg) : z ∈ addL L x ↔ z = x ∨ z ∈ L := by
  unfold addL
  rw [List.mem_append, List.mem_cons]
  constructor
  · rintro (h | h | h)
    · exact Or.inr (List.mem_of_mem_take h)
    · exact Or.inl h
    · exact Or.inr (List.mem_of_mem_drop h)
  · rintro (h | h)
    · exact Or.inr (Or.inl h)
    · have h2 := h
      rw [← List.take_append_drop (bh L x.f) L, List.mem_append] at h2
      rcases h2 with h2 | h2
      · exact Or.inl h2
      · exact Or.inr (Or.inr h2)
theorem bz_iff {L : List Rg} (h : RL L) {x : Rg} : bz L x = true ↔ ∃ z ∈ L, z.f < x.t ∧ x.f < z.t := by
  unfold bz
  constructor
  · intro hb
    by_cases hl : bh L x.f < L.length
    · rw [List.getElem?_eq_getElem hl] at hb
      simp at hb
      exact ⟨_, List.getElem_mem hl, hb, bh_at L x.f hl⟩
    · rw [List.getElem?_eq_none (by omega)] at hb
      cases hb
  · rintro ⟨z, hz, h1, h2⟩
    obtain ⟨k, hk, rfl⟩ := List.getElem_of_mem hz
    have hkb : bh L x.f ≤ k := by
      rcases Nat.lt_or_ge k (bh L x.f) with h3 | h3
      · have := bh_lt L x.f k hk h3
        omega
      · exact h3
    have hl : bh L x.f < L.length := by omega
    rw [List.getElem?_eq_getElem hl]
    simp
    rcases Nat.lt_or_eq_of_le hkb with h3 | h3
    · have := h.lt hk h3
      have := (h.vd hl).2.1
      omega
    · have e : L[bh L x.f] = L[k] := by simp [h3]
      rw [e]
      exact h1
theorem bz_no {L : List Rg} (h : RL L) {x : Rg} (hb : bz L x = false) : ∀ z ∈ L, z.t ≤ x.f ∨ x.t ≤ z.f := by
  intro z hz
  by_cases h1 : z.t ≤ x.f
  · exact Or.inl h1
  · right
    by_cases h2 : x.t ≤ z.f
    · exact h2
    · have := (bz_iff (x := x) h).2 ⟨z, hz, by omega, by omega⟩
      rw [this] at hb
      cases hb
theorem bz_drop {L : List Rg} (h : RL L) {x : Rg} (hb : bz L x = false) (k : Nat) (hk : k < L.length) (hkb : bh L x.f ≤ k) : x.t ≤ L[k].f := by
  have := bz_no h hb L[k] (List.getElem_mem hk)
  have := bh_ge h x.f k hk hkb
  omega
theorem RL.add {L : List Rg} (h : RL L) {x : Rg} (hx : Vd x) (hb : bz L x = false) : RL (addL L x) := by
  refine ⟨fun z hz => ?_, ?_⟩
  · rcases (mem_addL L x z).1 hz with h1 | h1
    · rw [h1]; exact hx
    · exact h.1 z h1
  · unfold addL
    have hdr : ∀ z ∈ L.drop (bh L x.f), x.t ≤ z.f := by
      intro z hz
      obtain ⟨k, hk, rfl⟩ := List.getElem_of_mem hz
      rw [List.getElem_drop]
      exact bz_drop h hb _ (by simp at hk; omega) (by omega)
    have htk : ∀ z ∈ L.take (bh L x.f), z.t ≤ x.f := by
      intro z hz
      obtain ⟨k, hk, rfl⟩ := List.getElem_of_mem hz
      rw [List.getElem_take]
      simp at hk
      exact bh_lt L x.f k (by omega) (by omega)
    rw [List.pairwise_append, List.pairwise_cons]
    refine ⟨h.2.sublist (List.take_sublist _ _), ⟨hdr, h.2.sublist (List.drop_sublist _ _)⟩, ?_⟩
    intro a ha b hb2
    rcases List.mem_cons.1 hb2 with h1 | h1
    · rw [h1]; exact htk a ha
    · have := htk a ha
      have := hdr b h1
      have := hx.2.1
      omega
theorem addL_length (L : List Rg) (x : Rg) : (addL L x).length = L.length + 1 := by
  unfold addL
  have := bh_le L x.f
  simp
  omega
theorem addArg_iff (L : List Rg) (x : Rg) : addArg L x = true ↔ RL L ∧ Vd x ∧ L.length < 64 := by
  simp [addArg, rt_iff, vd_iff]
theorem addE_ok {L : List Rg} {x : Rg} (h : addE L x = 0) : RL L ∧ Vd x ∧ L.length < 64 ∧ bz L x = false := by
  unfold addE at h
  cases ha : addArg L x with
  | false => rw [ha] at h; simp at h
  | true =>
    cases hb : bz L x with
    | false => exact ⟨((addArg_iff L x).1 ha).1, ((addArg_iff L x).1 ha).2.1, ((addArg_iff L x).1 ha).2.2, rfl⟩
    | true => rw [ha, hb] at h; simp at h
theorem addR_ok {L : List Rg} {x : Rg} (h1 : RL L) (h2 : Vd x) (h3 : L.length < 64) (h4 : bz L x = false) : addR L x = addL L x ∧ addE L x = 0 := by
  have ha := (addArg_iff L x).2 ⟨h1, h2, h3⟩
  unfold addR addE
  rw [ha, h4]
  simp
theorem addR_busy {L : List Rg} {x : Rg} (h1 : RL L) (h2 : Vd x) (h3 : L.length < 64) (h4 : bz L x = true) : addR L x = [] ∧ addE L x = 4 := by
  have ha := (addArg_iff L x).2 ⟨h1, h2, h3⟩
  unfold addR addE
  rw [ha, h4]
  simp
theorem addR_arg {L : List Rg} {x : Rg} (h : addArg L x = false) : addR L x = [] ∧ addE L x = 1 := by
  unfold addR addE
  rw [h]
  simp
end Go.Proofs.Ytagobeoabkbhaaa
