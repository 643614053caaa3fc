/-
  Groups in a list, and how much of each is effectively protected; what holds of that. No program is named here.
-/
namespace Go.Proofs.Ytimgpikgkbjliaa

structure Nd where
  p : Int
  u : Int
  o : Int
def par (l : List Nd) (i : Nat) : Int := (l.getD i ⟨-1, 0, 0⟩).p
def use (l : List Nd) (i : Nat) : Int := (l.getD i ⟨-1, 0, 0⟩).u
def own (l : List Nd) (i : Nat) : Int := (l.getD i ⟨-1, 0, 0⟩).o
/-- The lesser of what it asks and what it uses. -/
def low (l : List Nd) (i : Nat) : Int := min (own l i) (use l i)
/-- May it stand at place i? -/
def vd1 (i : Nat) (x : Nd) : Bool := (if i = 0 then decide (x.p = -1) else decide (0 ≤ x.p) && decide (x.p < i)) && decide (0 ≤ x.u) && decide (x.u ≤ 1099511627776) && decide (0 ≤ x.o) && decide (x.o ≤ 1099511627776)
/-- May the first n stand so? -/
def vdN (l : List Nd) : Nat → Bool
  | 0 => true
  | n + 1 => vdN l n && vd1 n (l.getD n ⟨-1, 0, 0⟩)
def vd (l : List Nd) : Bool := vdN l l.length && decide (l.length ≤ 64)
theorem vdN_at {l : List Nd} {n i : Nat} (h : vdN l n = true) (hi : i < n) : vd1 i (l.getD i ⟨-1, 0, 0⟩) = true := by
  induction n with
  | zero => omega
  | succ n ih =>
    simp only [vdN, Bool.and_eq_true] at h
    by_cases e : i = n
    · subst e; exact h.2
    · exact ih h.1 (by omega)
theorem vdN_mk {l : List Nd} {n : Nat} (h : ∀ i, i < n → vd1 i (l.getD i ⟨-1, 0, 0⟩) = true) : vdN l n = true := by
  induction n with
  | zero => rfl
  | succ n ih =>
    simp only [vdN, Bool.and_eq_true]
    exact ⟨ih fun i hi => h i (by omega), h n (by omega)⟩
/-- What a list of groups is. -/
structure Ok (l : List Nd) : Prop where
  len : l.length ≤ 64
  root : 0 < l.length → par l 0 = -1
  up : ∀ i, 0 < i → i < l.length → 0 ≤ par l i ∧ par l i < i
  u : ∀ i, 0 ≤ use l i ∧ use l i ≤ 1099511627776
  o : ∀ i, 0 ≤ own l i ∧ own l i ≤ 1099511627776
theorem ok_of {l : List Nd} (h : vd l = true) : Ok l := by
  simp only [vd, Bool.and_eq_true, decide_eq_true_eq] at h
  have hat := fun i hi => vdN_at (i := i) h.1 hi
  have hout : ∀ i, ¬ i < l.length → l.getD i ⟨-1, 0, 0⟩ = ⟨-1, 0, 0⟩ := fun i hi => by simp [List.getD_eq_getElem?_getD, List.getElem?_eq_none (Nat.le_of_not_lt hi)]
  refine ⟨h.2, fun h0 => ?_, fun i h0 hi => ?_, fun i => ?_, fun i => ?_⟩
  · have := hat 0 h0
    simp only [vd1, if_true, Bool.and_eq_true, decide_eq_true_eq] at this
    exact this.1.1.1.1
  · have := hat i hi
    simp only [vd1, if_neg (Nat.ne_of_gt h0), Bool.and_eq_true, decide_eq_true_eq] at this
    exact this.1.1.1.1
  · by_cases hi : i < l.length
    · have := hat i hi
      simp only [vd1, Bool.and_eq_true, decide_eq_true_eq] at this
      exact ⟨this.1.1.1.2, this.1.1.2⟩
    · unfold use; rw [hout i hi]; decide
  · by_cases hi : i < l.length
    · have := hat i hi
      simp only [vd1, Bool.and_eq_true, decide_eq_true_eq] at this
      exact ⟨this.1.2, this.2⟩
    · unfold own; rw [hout i hi]; decide
theorem low_le {l : List Nd} (h : Ok l) (i : Nat) : 0 ≤ low l i ∧ low l i ≤ own l i ∧ low l i ≤ use l i ∧ low l i ≤ 1099511627776 := by
  have := h.u i
  have := h.o i
  unfold low
  omega

/-- Is a group at the target, or below it? (n: more than its place.) -/
def bel (l : List Nd) (t : Int) : Nat → Int → Bool
  | 0, _ => false
  | n + 1, g => if g < 0 then false else if g = t then true else bel l t n (par l g.toNat)
def blw (l : List Nd) (t g : Int) : Bool := bel l t (g.toNat + 1) g
theorem bel_more {l : List Nd} (h : Ok l) (t : Int) : ∀ (n m : Nat) (g : Int), g < l.length → g.toNat < n → g.toNat < m → bel l t n g = bel l t m g := by
  intro n
  induction n with
  | zero => intro m g _ h1; omega
  | succ n ih =>
    intro m g hg h1 h2
    obtain ⟨m, rfl⟩ : ∃ k, m = k + 1 := ⟨m - 1, by omega⟩
    simp only [bel]
    by_cases g0 : g < 0
    · rw [if_pos g0, if_pos g0]
    · rw [if_neg g0, if_neg g0]
      by_cases gt : g = t
      · rw [if_pos gt, if_pos gt]
      · rw [if_neg gt, if_neg gt]
        by_cases gz : g = 0
        · subst gz
          have hr := h.root (by omega)
          have e : par l (Int.toNat 0) = -1 := hr
          rw [e]
          cases n <;> cases m <;> simp [bel]
        · obtain ⟨u1, u2⟩ := h.up g.toNat (by omega) (by omega)
          exact ih m _ (by omega) (by omega) (by omega)
theorem blw_neg {l : List Nd} {t g : Int} (h : g < 0) : blw l t g = false := by simp [blw, bel, h]
theorem blw_self {l : List Nd} {t : Int} (h : 0 ≤ t) : blw l t t = true := by
  have : ¬ t < 0 := by omega
  simp [blw, bel, this]
theorem blw_up {l : List Nd} (h : Ok l) {t : Int} {i : Nat} (hi : i < l.length) (hne : (i : Int) ≠ t) : blw l t i = blw l t (par l i) := by
  unfold blw
  have h0 : ¬ (i : Int) < 0 := by omega
  simp only [bel, h0, if_false, hne, Int.toNat_natCast]
  by_cases iz : i = 0
  · subst iz
    rw [h.root hi]
    simp [bel]
  · obtain ⟨u1, u2⟩ := h.up i (by omega) hi
    exact bel_more h t i ((par l i).toNat + 1) (par l i) (by omega) (by omega) (by omega)

/-- Sums over the first n places. -/
def sumN (f : Nat → Int) : Nat → Int
  | 0 => 0
  | n + 1 => sumN f n + f n
theorem sum_le {f g : Nat → Int} {n : Nat} (h : ∀ i, i < n → f i ≤ g i) : sumN f n ≤ sumN g n := by
  induction n with
  | zero => exact Int.le_refl _
  | succ n ih =>
    have := ih fun i hi => h i (by omega)
    have := h n (by omega)
    simp only [sumN]
    omega
theorem sum_eq {f g : Nat → Int} {n : Nat} (h : ∀ i, i < n → f i = g i) : sumN f n = sumN g n := by
  induction n with
  | zero => rfl
  | succ n ih => simp only [sumN]; rw [ih fun i hi => h i (by omega), h n (by omega)]
theorem sum_nonneg {f : Nat → Int} {n : Nat} (h : ∀ i, i < n → 0 ≤ f i) : 0 ≤ sumN f n := by
  induction n with
  | zero => exact Int.le_refl _
  | succ n ih =>
    have := ih fun i hi => h i (by omega)
    have := h n (by omega)
    simp only [sumN]
    omega
theorem sum_mul (f : Nat → Int) (c : Int) (n : Nat) : sumN (fun i => f i * c) n = sumN f n * c := by
  induction n with
  | zero => simp [sumN]
  | succ n ih => simp only [sumN]; rw [ih, Int.add_mul]
/-- Quotients that are rounded down come to no more than their sum's. -/
theorem sum_div {f : Nat → Int} {s : Int} (hs : 0 < s) (n : Nat) : sumN (fun i => f i / s) n ≤ sumN f n / s := by
  induction n with
  | zero => simp [sumN]
  | succ n ih =>
    simp only [sumN]
    refine Int.le_trans (Int.add_le_add_right ih _) ?_
    rw [Int.le_ediv_iff_mul_le hs, Int.add_mul]
    exact Int.add_le_add (Int.ediv_mul_le _ (by omega)) (Int.ediv_mul_le _ (by omega))

/-- What all just below a group come to, of the first n. -/
def sib (l : List Nd) (up : Int) (n : Nat) : Int := sumN (fun k => if par l k = up then low l k else 0) n
theorem sib_nonneg {l : List Nd} (h : Ok l) (up : Int) (n : Nat) : 0 ≤ sib l up n := by
  refine sum_nonneg fun i _ => ?_
  have := low_le h i
  split <;> omega
/-- A group's effective one, by those of the places ahead. -/
def ef1 (l : List Nd) (t : Int) (E : List Int) (i : Nat) : Int :=
  if (i : Int) = t ∨ blw l t i = false then 0
  else if par l i = t then low l i
  else if E.getD (par l i).toNat 0 < sib l (par l i) l.length then low l i * E.getD (par l i).toNat 0 / sib l (par l i) l.length
  else low l i
def efN (l : List Nd) (t : Int) : Nat → List Int
  | 0 => []
  | n + 1 => efN l t n ++ [ef1 l t (efN l t n) n]
theorem efN_len (l : List Nd) (t : Int) (n : Nat) : (efN l t n).length = n := by
  induction n with
  | zero => rfl
  | succ n ih => simp [efN, ih]
theorem efN_get (l : List Nd) (t : Int) {i n m : Nat} (hi : i < n) (hm : n ≤ m) : (efN l t m).getD i 0 = (efN l t n).getD i 0 := by
  induction m with
  | zero => omega
  | succ m ih =>
    by_cases e : n = m + 1
    · subst e; rfl
    · have hl := efN_len l t m
      simp only [efN]
      rw [List.getD_eq_getElem?_getD, List.getElem?_append_left (by omega), ← List.getD_eq_getElem?_getD]
      exact ih (by omega)
/-- How much of place i is protected. -/
def eff (l : List Nd) (t : Int) (i : Nat) : Int := (efN l t (i + 1)).getD i 0
theorem eff_get (l : List Nd) (t : Int) {i n : Nat} (hi : i < n) : (efN l t n).getD i 0 = eff l t i := efN_get l t (by omega) (by omega)
theorem eff_eq (l : List Nd) (t : Int) (i : Nat) : eff l t i = ef1 l t (efN l t i) i := by
  unfold eff
  have hl := efN_len l t i
  simp only [efN]
  rw [List.getD_eq_getElem?_getD, List.getElem?_append_right (by omega), hl, Nat.sub_self]
  rfl
theorem eff_of {l : List Nd} (h : Ok l) {t : Int} {i : Nat} (hi : i < l.length) (h1 : (i : Int) ≠ t) (h2 : blw l t i = true) (h3 : par l i ≠ t) :
    eff l t i = if eff l t (par l i).toNat < sib l (par l i) l.length then low l i * eff l t (par l i).toNat / sib l (par l i) l.length else low l i := by
  rw [eff_eq]
  unfold ef1
  rw [if_neg (by rintro (e | e); exact h1 e; rw [h2] at e; cases e), if_neg h3]
  by_cases iz : i = 0
  · subst iz
    rw [blw_up h hi h1, h.root hi, blw_neg (by omega)] at h2
    cases h2
  · obtain ⟨u1, u2⟩ := h.up i (by omega) hi
    rw [eff_get l t (i := (par l i).toNat) (n := i) (by omega)]
theorem eff_top (l : List Nd) {t : Int} {i : Nat} (h1 : (i : Int) ≠ t) (h2 : blw l t i = true) (h3 : par l i = t) : eff l t i = low l i := by
  rw [eff_eq]
  unfold ef1
  rw [if_neg (by rintro (e | e); exact h1 e; rw [h2] at e; cases e), if_pos h3]
theorem eff_none (l : List Nd) {t : Int} {i : Nat} (h : (i : Int) = t ∨ blw l t i = false) : eff l t i = 0 := by
  rw [eff_eq]
  unfold ef1
  rw [if_pos h]
/-- None is protected by more than it asks, or uses. -/
theorem eff_le {l : List Nd} (h : Ok l) (t : Int) : ∀ (n i : Nat), i < n → i < l.length → 0 ≤ eff l t i ∧ eff l t i ≤ low l i := by
  intro n
  induction n with
  | zero => intro i h0; omega
  | succ n ih =>
    intro i hin hi
    have hl := low_le h i
    by_cases h1 : (i : Int) = t ∨ blw l t i = false
    · rw [eff_none l h1]; omega
    · have h2 : (i : Int) ≠ t := fun e => h1 (Or.inl e)
      have h3 : blw l t i = true := by
        cases hb : blw l t i with
        | true => rfl
        | false => exact absurd (Or.inr hb) h1
      by_cases h4 : par l i = t
      · rw [eff_top l h2 h3 h4]; omega
      · rw [eff_of h hi h2 h3 h4]
        by_cases iz : i = 0
        · subst iz
          rw [blw_up h hi h2, h.root hi, blw_neg (by omega)] at h3
          cases h3
        · obtain ⟨u1, u2⟩ := h.up i (by omega) hi
          obtain ⟨p1, p2⟩ := ih (par l i).toNat (by omega) (by omega)
          split
          · rename_i hlt
            have hs : 0 < sib l (par l i) l.length := by omega
            refine ⟨Int.ediv_nonneg (Int.mul_nonneg hl.1 p1) (by omega), ?_⟩
            refine Int.ediv_le_of_le_mul hs ?_
            exact Int.mul_le_mul_of_nonneg_left (by omega) hl.1
          · omega
theorem eff_lo {l : List Nd} (h : Ok l) (t : Int) {i : Nat} (hi : i < l.length) : 0 ≤ eff l t i ∧ eff l t i ≤ low l i := eff_le h t (i + 1) i (by omega) hi
/-- Those below one are protected by no more than it is, together. -/
theorem eff_sum {l : List Nd} (h : Ok l) {t : Int} {g : Nat} (hg : g < l.length) (hne : (g : Int) ≠ t) (hab : ∀ k, k < l.length → par l k = g → (k : Int) ≠ t) :
    sumN (fun k => if par l k = g then eff l t k else 0) l.length ≤ eff l t g := by
  obtain ⟨p1, -⟩ := eff_lo h t hg
  have hkid : ∀ k, k < l.length → par l k = g → blw l t k = blw l t g := fun k hk he => by rw [blw_up h hk (hab k hk he), he]
  cases hb : blw l t g with
  | false =>
    have : sumN (fun k => if par l k = g then eff l t k else 0) l.length = sumN (fun _ => 0) l.length := sum_eq fun k hk => by
      split
      · rename_i he
        rw [eff_none l (Or.inr ((hkid k hk he).trans hb))]
      · rfl
    rw [this]
    have hz : sumN (fun _ => (0 : Int)) l.length ≤ 0 := by
      have : ∀ n, sumN (fun _ => (0 : Int)) n = 0 := fun n => by induction n with
        | zero => rfl
        | succ n ih => simp [sumN, ih]
      rw [this]
      exact Int.le_refl _
    omega
  | true =>
    have he : ∀ k, k < l.length → par l k = g → eff l t k = if eff l t g < sib l g l.length then low l k * eff l t g / sib l g l.length else low l k := fun k hk he => by
      have := eff_of h hk (hab k hk he) ((hkid k hk he).trans hb) (by rw [he]; exact hne)
      rw [he, Int.toNat_natCast] at this
      exact this
    by_cases hlt : eff l t g < sib l g l.length
    · have hs : 0 < sib l g l.length := by omega
      have h1 : sumN (fun k => if par l k = g then eff l t k else 0) l.length = sumN (fun k => (if par l k = g then low l k else 0) * eff l t g / sib l g l.length) l.length := sum_eq fun k hk => by
        split
        · rename_i hp
          rw [he k hk hp, if_pos hlt]
        · simp
      rw [h1]
      refine Int.le_trans (sum_div hs _) ?_
      rw [sum_mul]
      show sib l g l.length * eff l t g / sib l g l.length ≤ eff l t g
      rw [Int.mul_ediv_cancel_left _ (by omega)]
      exact Int.le_refl _
    · have h1 : sumN (fun k => if par l k = g then eff l t k else 0) l.length = sib l g l.length := sum_eq fun k hk => by
        show (if par l k = g then eff l t k else 0) = (if par l k = g then low l k else 0)
        by_cases hp : par l k = g
        · rw [if_pos hp, if_pos hp, he k hk hp, if_neg hlt]
        · rw [if_neg hp, if_neg hp]
      rw [h1]
      omega

/-- Who is above whom goes by the parents alone. -/
theorem bel_same {l m : List Nd} (hp : ∀ i, par m i = par l i) (t : Int) : ∀ (n : Nat) (g : Int), bel m t n g = bel l t n g := by
  intro n
  induction n with
  | zero => intro g; rfl
  | succ n ih =>
    intro g
    simp only [bel, hp, ih]
theorem blw_same {l m : List Nd} (hp : ∀ i, par m i = par l i) (t g : Int) : blw m t g = blw l t g := bel_same hp t _ _
/-- One just below the target asks for more: no other is protected by less. -/
theorem eff_more {l m : List Nd} (hl : Ok l) (hm : Ok m) (hlen : m.length = l.length) (hp : ∀ i, par m i = par l i) {t : Int} {g : Nat} (hgt : par l g = t) (hlow : ∀ i, i ≠ g → low m i = low l i) (hg : low l g ≤ low m g) :
    ∀ (n i : Nat), i < n → i < l.length → eff l t i ≤ eff m t i := by
  have hsib : ∀ up, up ≠ t → sib m up m.length = sib l up l.length := by
    intro up hup
    unfold sib
    rw [hlen]
    refine sum_eq fun k _ => ?_
    rw [hp]
    by_cases e : k = g
    · subst e
      rw [hgt, if_neg (fun e => hup e.symm), if_neg (fun e => hup e.symm)]
    · rw [hlow k e]
  intro n
  induction n with
  | zero => intro i h0; omega
  | succ n ih =>
    intro i hin hi
    have him : i < m.length := by omega
    by_cases h1 : (i : Int) = t ∨ blw l t i = false
    · rw [eff_none l h1, eff_none m (by rw [blw_same hp]; exact h1)]; exact Int.le_refl _
    · have h2 : (i : Int) ≠ t := fun e => h1 (Or.inl e)
      have h3 : blw l t i = true := by
        cases hb : blw l t i with
        | true => rfl
        | false => exact absurd (Or.inr hb) h1
      have h3m : blw m t i = true := by rw [blw_same hp]; exact h3
      by_cases h4 : par l i = t
      · rw [eff_top l h2 h3 h4, eff_top m h2 h3m (by rw [hp]; exact h4)]
        by_cases e : i = g
        · subst e; exact hg
        · rw [hlow i e]; exact Int.le_refl _
      · have hig : i ≠ g := fun e => h4 (by rw [e]; exact hgt)
        have iz : i ≠ 0 := fun e => by
          subst e
          rw [blw_up hl hi h2, hl.root hi, blw_neg (by omega)] at h3
          cases h3
        obtain ⟨u1, u2⟩ := hl.up i (by omega) hi
        have hP := ih (par l i).toNat (by omega) (by omega)
        have hlo := low_le hl i
        have hle := (eff_lo hl t hi).2
        rw [eff_of hm him h2 h3m (by rw [hp]; exact h4), hp, hsib _ h4, hlow i hig]
        by_cases c : eff m t (par l i).toNat < sib l (par l i) l.length
        · rw [if_pos c, eff_of hl hi h2 h3 h4, if_pos (by omega)]
          have h0 := (eff_lo hl t (i := (par l i).toNat) (by omega)).1
          exact Int.ediv_le_ediv (by omega) (Int.mul_le_mul_of_nonneg_left hP hlo.1)
        · rw [if_neg c]; exact hle
/-- What is not at the target or below it counts for nothing. -/
theorem eff_apart {l m : List Nd} (hl : Ok l) (hm : Ok m) (hlen : m.length = l.length) (hp : ∀ i, par m i = par l i) {t : Int} (ht : 0 ≤ t) {g : Nat} (hg : blw l t g = false) (hlow : ∀ i, i ≠ g → low m i = low l i) :
    ∀ (n i : Nat), i < n → i < l.length → eff m t i = eff l t i := by
  intro n
  induction n with
  | zero => intro i h0; omega
  | succ n ih =>
    intro i hin hi
    have him : i < m.length := by omega
    by_cases h1 : (i : Int) = t ∨ blw l t i = false
    · rw [eff_none l h1, eff_none m (by rw [blw_same hp]; exact h1)]
    · have h2 : (i : Int) ≠ t := fun e => h1 (Or.inl e)
      have h3 : blw l t i = true := by
        cases hb : blw l t i with
        | true => rfl
        | false => exact absurd (Or.inr hb) h1
      have h3m : blw m t i = true := by rw [blw_same hp]; exact h3
      have hig : i ≠ g := fun e => by subst e; rw [hg] at h3; cases h3
      by_cases h4 : par l i = t
      · rw [eff_top l h2 h3 h4, eff_top m h2 h3m (by rw [hp]; exact h4), hlow i hig]
      · have iz : i ≠ 0 := fun e => by
          subst e
          rw [blw_up hl hi h2, hl.root hi, blw_neg (by omega)] at h3
          cases h3
        obtain ⟨u1, u2⟩ := hl.up i (by omega) hi
        have hsib : sib m (par l i) m.length = sib l (par l i) l.length := by
          unfold sib
          rw [hlen]
          refine sum_eq fun k hk => ?_
          rw [hp]
          by_cases e : par l k = par l i
          · rw [if_pos e, if_pos e, hlow k fun e2 => ?_]
            subst e2
            have hkt : (k : Int) ≠ t := fun e3 => by rw [e3, blw_self ht] at hg; cases hg
            rw [blw_up hl hk hkt, e, ← blw_up hl hi h2, h3] at hg
            cases hg
          · rw [if_neg e, if_neg e]
        rw [eff_of hm him h2 h3m (by rw [hp]; exact h4), eff_of hl hi h2 h3 h4, hp, hsib, hlow i hig, ih (par l i).toNat (by omega) (by omega)]
/-- Where all ask for all they use, and each uses as much as those below it, nothing goes. -/
theorem eff_all {l : List Nd} (h : Ok l) (t : Int) (hall : ∀ i, own l i = use l i) (hup : ∀ g : Nat, g < l.length → sumN (fun k => if par l k = g then use l k else 0) l.length ≤ use l g) :
    ∀ (n i : Nat), i < n → i < l.length → (i : Int) ≠ t → blw l t i = true → eff l t i = use l i := by
  have hlow : ∀ i, low l i = use l i := fun i => by unfold low; rw [hall]; omega
  intro n
  induction n with
  | zero => intro i h0; omega
  | succ n ih =>
    intro i hin hi h2 h3
    by_cases h4 : par l i = t
    · rw [eff_top l h2 h3 h4, hlow]
    · have iz : i ≠ 0 := fun e => by
        subst e
        rw [blw_up h hi h2, h.root hi, blw_neg (by omega)] at h3
        cases h3
      obtain ⟨u1, u2⟩ := h.up i (by omega) hi
      have e1 : (((par l i).toNat : Nat) : Int) = par l i := by omega
      have hb : blw l t ((par l i).toNat : Nat) = true := by rw [e1, ← blw_up h hi h2]; exact h3
      have hP := ih (par l i).toNat (by omega) (by omega) (by rw [e1]; exact h4) hb
      have hs := hup (par l i).toNat (by omega)
      rw [e1] at hs
      have hsib : sib l (par l i) l.length = sumN (fun k => if par l k = par l i then use l k else 0) l.length := sum_eq fun k _ => by rw [hlow]
      rw [eff_of h hi h2 h3 h4, hP, hsib, if_neg (by omega), hlow]

/-- Is one from g on up to ahead of the target such that it uses no more than its E? (n: more than g.) -/
def hel (l : List Nd) (E : Nat → Int) (t : Int) : Nat → Int → Bool
  | 0, _ => false
  | n + 1, g => if g < 0 then false else if g = t then false else if use l g.toNat ≤ E g.toNat then true else hel l E t n (par l g.toNat)
theorem hel_more {l : List Nd} (h : Ok l) (E : Nat → Int) (t : Int) : ∀ (n m : Nat) (g : Int), g < l.length → g.toNat < n → g.toNat < m → hel l E t n g = hel l E t m g := by
  intro n
  induction n with
  | zero => intro m g _ h1; omega
  | succ n ih =>
    intro m g hg h1 h2
    obtain ⟨m, rfl⟩ : ∃ k, m = k + 1 := ⟨m - 1, by omega⟩
    simp only [hel]
    by_cases g0 : g < 0
    · rw [if_pos g0, if_pos g0]
    · rw [if_neg g0, if_neg g0]
      by_cases gt : g = t
      · rw [if_pos gt, if_pos gt]
      · rw [if_neg gt, if_neg gt]
        by_cases ge : use l g.toNat ≤ E g.toNat
        · rw [if_pos ge, if_pos ge]
        · rw [if_neg ge, if_neg ge]
          by_cases gz : g = 0
          · subst gz
            have hr := h.root (by omega)
            have e : par l (Int.toNat 0) = -1 := hr
            rw [e]
            cases n <;> cases m <;> simp [hel]
          · obtain ⟨u1, u2⟩ := h.up g.toNat (by omega) (by omega)
            exact ih m _ (by omega) (by omega) (by omega)
def hd (l : List Nd) (E : Nat → Int) (t g : Int) : Bool := hel l E t (g.toNat + 1) g
theorem hd_self (l : List Nd) (E : Nat → Int) (t : Int) : hd l E t t = false := by
  unfold hd
  simp only [hel]
  split
  · rfl
  · exact if_pos trivial
theorem hd_neg {l : List Nd} (E : Nat → Int) {t g : Int} (h : g < 0) : hd l E t g = false := by simp [hd, hel, h]
theorem hd_yes (l : List Nd) (E : Nat → Int) {t : Int} {i : Nat} (h1 : (i : Int) ≠ t) (h2 : use l i ≤ E i) : hd l E t i = true := by
  unfold hd
  have h0 : ¬ (i : Int) < 0 := by omega
  simp only [hel, h0, if_false, h1, Int.toNat_natCast, h2, if_true]
theorem hd_up {l : List Nd} (h : Ok l) (E : Nat → Int) {t : Int} {i : Nat} (hi : i < l.length) (h1 : (i : Int) ≠ t) (h2 : ¬ use l i ≤ E i) : hd l E t i = hd l E t (par l i) := by
  unfold hd
  have h0 : ¬ (i : Int) < 0 := by omega
  simp only [hel, h0, if_false, h1, Int.toNat_natCast, h2]
  by_cases iz : i = 0
  · subst iz
    rw [h.root hi]
    simp [hel]
  · obtain ⟨u1, u2⟩ := h.up i (by omega) hi
    exact hel_more h E t i ((par l i).toNat + 1) (par l i) (by omega) (by omega) (by omega)

/-- A product divided, digit by digit of one factor: one digit more. -/
theorem part_step {a p s q r : Int} {b : Nat} (hs : 0 < s) (h : q * s + r = a * (p / 2 ^ (b + 1))) :
    (2 * q + (2 * r + (if p / 2 ^ b % 2 = 1 then a else 0)) / s) * s + (2 * r + (if p / 2 ^ b % 2 = 1 then a else 0)) % s = a * (p / 2 ^ b) ∧
    0 ≤ (2 * r + (if p / 2 ^ b % 2 = 1 then a else 0)) % s ∧ (2 * r + (if p / 2 ^ b % 2 = 1 then a else 0)) % s < s := by
  refine ⟨?_, Int.emod_nonneg _ (by omega), Int.emod_lt_of_pos _ hs⟩
  obtain ⟨x, hx⟩ : ∃ x, x = 2 * r + (if p / 2 ^ b % 2 = 1 then a else 0) := ⟨_, rfl⟩
  rw [← hx]
  have hdm : x / s * s + x % s = x := by rw [Int.mul_comm]; exact Int.mul_ediv_add_emod x s
  have e1 : (2 * q + x / s) * s + x % s = 2 * (q * s) + (x / s * s + x % s) := by
    rw [Int.add_mul, Int.mul_assoc, Int.add_assoc]
  rw [e1, hdm, hx]
  have e2 : p / 2 ^ (b + 1) = p / 2 ^ b / 2 := by
    rw [Int.pow_succ, Int.ediv_ediv_of_nonneg (by exact Int.le_of_lt (Int.pow_pos (by decide)))]
  obtain ⟨y, hy⟩ : ∃ y, y = p / 2 ^ b := ⟨_, rfl⟩
  rw [e2, ← hy] at h
  rw [← hy]
  have e3 : y = 2 * (y / 2) + y % 2 := (Int.mul_ediv_add_emod y 2).symm
  have e4 : a * y = 2 * (a * (y / 2)) + a * (y % 2) := by
    conv => lhs; rw [e3]
    rw [Int.mul_add, ← Int.mul_assoc a 2, Int.mul_comm a 2, Int.mul_assoc]
  rw [e4, ← h]
  rcases Int.emod_two_eq y with h0 | h0
  · rw [h0, if_neg (by decide)]; omega
  · rw [h0, if_pos rfl]; omega
theorem part_end {a p s q r : Int} (hs : 0 < s) (h : q * s + r = a * (p / 2 ^ 0)) (hr : 0 ≤ r ∧ r < s) : q = a * p / s := by
  have e : a * (p / 2 ^ 0) = a * p := by simp
  rw [e] at h
  rw [← h, Int.add_comm, Int.add_mul_ediv_right _ _ (by omega), Int.ediv_eq_zero_of_lt hr.1 hr.2, Int.zero_add]
/-- The quotient is never more than the other factor. -/
theorem part_le {a p s q r : Int} {b : Nat} (hs : 0 < s) (hp : 0 ≤ p ∧ p < s) (h : q * s + r = a * (p / 2 ^ b)) (hr : 0 ≤ r ∧ r < s) (ha : 0 ≤ a) : q ≤ a := by
  have h1 : p / 2 ^ b ≤ p := Int.ediv_le_self _ hp.1
  have h2 : a * (p / 2 ^ b) ≤ a * s := Int.mul_le_mul_of_nonneg_left (by omega) ha
  have h3 : q * s ≤ a * s := by omega
  exact Int.le_of_mul_le_mul_right h3 hs
end Go.Proofs.Ytimgpikgkbjliaa
