/-
  Where nobody asks, and where all ask for all: lists made of another one. No program is named here.
-/
import Derived.Test.YtimgpikgkbjliaaSets
namespace Go.Proofs.Ytimgpikgkbjliaa

theorem at0_set {U : List Int} {i : Nat} (hi : i < U.length) (v : Int) (j : Nat) : at0 (U.set i v) j = if j = i then v else at0 U j := by
  unfold at0
  simp only [List.getD_eq_getElem?_getD]
  by_cases e : j = i
  · subst e
    rw [if_pos rfl, List.getElem?_set_self hi]
    rfl
  · rw [if_neg e, List.getElem?_set_ne (fun h => e h.symm)]
theorem sum_upd {f g : Nat → Int} {i : Nat} (h : ∀ j, j ≠ i → g j = f j) : ∀ k, i < k → sumN g k = sumN f k + (g i - f i) := by
  intro k
  induction k with
  | zero => intro h0; omega
  | succ k ih =>
    intro hk
    simp only [sumN]
    by_cases e : k = i
    · subst e
      rw [sum_eq (g := f) (fun j hj => h j (by omega))]
      omega
    · rw [ih (by omega), h k e]
      omega
theorem term_le {f : Nat → Int} (h : ∀ j, 0 ≤ f j) : ∀ k i, i < k → f i ≤ sumN f k := by
  intro k
  induction k with
  | zero => intro i h0; omega
  | succ k ih =>
    intro i hi
    simp only [sumN]
    have := h k
    by_cases e : i = k
    · subst e
      have := sum_nonneg (f := f) (n := i) fun j _ => h j
      omega
    · have := ih i (by omega)
      omega
/-- What those just below one, from place k on, come to. -/
def kidN (l : List Nd) (U : List Int) (k : Nat) (j : Nat) : Int := sumN (fun i => if k ≤ i ∧ par l i = j then at0 U i else 0) l.length
/-- Sums from the last place down to k. -/
structure NI (l : List Nd) (k : Nat) (U : List Int) : Prop where
  len : U.length = l.length
  pos : ∀ j, 0 ≤ at0 U j
  tot : sumN (at0 U) k ≤ ((l.length : Int) - k) * 999
  fin : ∀ j, k ≤ j → j < l.length → at0 U j ≤ l.length * 999
  kid : ∀ j : Nat, j < l.length → kidN l U k j ≤ at0 U j
theorem ni_zero (l : List Nd) : NI l l.length (List.replicate l.length 0) := by
  have h0 : ∀ j, at0 (List.replicate l.length 0) j = 0 := fun j => by
    unfold at0
    simp only [List.getD_eq_getElem?_getD, List.getElem?_replicate]
    split <;> rfl
  have hs : ∀ n, sumN (at0 (List.replicate l.length 0)) n = 0 := fun n => by
    induction n with
    | zero => rfl
    | succ n ih => simp only [sumN]; rw [ih, h0]; rfl
  refine ⟨by simp, fun j => by rw [h0]; exact Int.le_refl _, by rw [hs]; omega, fun j h1 h2 => by omega, fun j hj => ?_⟩
  rw [h0]
  have : kidN l (List.replicate l.length 0) l.length j = sumN (fun _ => 0) l.length := sum_eq fun i hi => by
    rw [if_neg (by omega)]
  rw [this]
  have hz : ∀ n, sumN (fun _ => (0 : Int)) n = 0 := fun n => by
    induction n with
    | zero => rfl
    | succ n ih => simp [sumN, ih]
  rw [hz]
  exact Int.le_refl _
/-- One place more. -/
def nst (U : List Int) (i : Nat) (r p : Int) : List Int :=
  if 0 ≤ p then (U.set i (at0 U i + r)).set p.toNat (at0 U p.toNat + (at0 U i + r)) else U.set i (at0 U i + r)
theorem nst_at {U : List Int} {i : Nat} {r p : Int} (hi : i < U.length) (hp : p < i) (j : Nat) :
    at0 (nst U i r p) j = if j = i then at0 U i + r else if (j : Int) = p then at0 U j + (at0 U i + r) else at0 U j := by
  unfold nst
  by_cases h0 : 0 ≤ p
  · rw [if_pos h0, at0_set (by rw [List.length_set]; omega), at0_set hi]
    by_cases e : j = i
    · subst e
      rw [if_neg (by omega), if_pos rfl, if_pos rfl]
    · by_cases e2 : j = p.toNat
      · subst e2
        rw [if_pos rfl, if_neg e, if_pos (by omega)]
      · rw [if_neg e2, if_neg e, if_neg e, if_neg (by omega)]
  · rw [if_neg h0, at0_set hi]
    by_cases e : j = i
    · rw [if_pos e, if_pos e]
    · rw [if_neg e, if_neg e, if_neg (by omega)]
theorem ni_step {l : List Nd} (h : Ok l) {i : Nat} (hi : i < l.length) {U : List Int} (hU : NI l (i + 1) U) {r : Int} (hr : 0 ≤ r ∧ r ≤ 999) : NI l i (nst U i r (par l i)) := by
  have hpl := par_lo h hi
  obtain ⟨p, hp⟩ : ∃ p, p = par l i := ⟨_, rfl⟩
  rw [← hp] at hpl ⊢
  have hat := fun j => nst_at (U := U) (i := i) (r := r) (p := p) (by rw [hU.len]; exact hi) hpl.2 j
  have h0 := hU.pos
  have hsum := hU.tot
  simp only [sumN] at hsum
  have hfi := term_le h0 (i + 1) i (by omega)
  simp only [sumN] at hfi
  have hs0 : 0 ≤ sumN (at0 U) i := sum_nonneg fun j _ => h0 j
  refine ⟨?_, fun j => ?_, ?_, fun j h1 h2 => ?_, fun j hj => ?_⟩
  · unfold nst
    split <;> simp [hU.len]
  · rw [hat]
    have := h0 j
    have := h0 i
    split
    · omega
    · split <;> omega
  · by_cases hp0 : 0 ≤ p
    · have e1 : sumN (at0 (nst U i r p)) i = sumN (at0 U) i + (at0 U i + r) := by
        have e2 : sumN (at0 (nst U i r p)) i = sumN (fun j => if (j : Int) = p then at0 U j + (at0 U i + r) else at0 U j) i := sum_eq fun j hj => by rw [hat, if_neg (by omega)]
        rw [e2, sum_upd (f := at0 U) (i := p.toNat) (fun j hj => if_neg (by omega)) i (by omega)]
        show _ + ((if ((p.toNat : Nat) : Int) = p then at0 U p.toNat + (at0 U i + r) else at0 U p.toNat) - at0 U p.toNat) = _
        rw [if_pos (by omega)]
        omega
      rw [e1]
      omega
    · have e2 : sumN (at0 (nst U i r p)) i = sumN (at0 U) i := sum_eq fun j hj => by rw [hat, if_neg (by omega), if_neg (by omega)]
      rw [e2]
      have := h0 i
      omega
  · rw [hat]
    by_cases e : j = i
    · rw [if_pos e]
      omega
    · rw [if_neg e, if_neg (by omega)]
      exact hU.fin j (by omega) h2
  · have hk := hU.kid j hj
    have e1 : kidN l (nst U i r p) i j = kidN l U (i + 1) j + (if p = (j : Int) then at0 (nst U i r p) i else 0) := by
      unfold kidN
      rw [sum_upd (f := fun i' => if i + 1 ≤ i' ∧ par l i' = (j : Int) then at0 U i' else 0) (i := i) (fun i' hne => ?_) l.length hi]
      · rw [if_neg (show ¬ (i + 1 ≤ i ∧ par l i = (j : Int)) by omega)]
        by_cases e : p = (j : Int)
        · rw [if_pos ⟨Nat.le_refl _, by rw [← hp]; exact e⟩, if_pos e]
          omega
        · rw [if_neg (show ¬ (i ≤ i ∧ par l i = (j : Int)) by rw [← hp]; exact fun h => e h.2), if_neg e]
          omega
      · by_cases hc : i ≤ i' ∧ par l i' = (j : Int)
        · rw [if_pos hc, if_pos ⟨by omega, hc.2⟩, hat, if_neg (by omega), if_neg (by omega)]
        · rw [if_neg hc, if_neg (fun h => hc ⟨by omega, h.2⟩)]
    rw [e1]
    have hgi : at0 (nst U i r p) i = at0 U i + r := by rw [hat, if_pos rfl]
    rw [hgi, hat]
    have := h0 i
    by_cases e : p = (j : Int)
    · have e2 : ¬ j = i := by omega
      rw [if_pos e, if_neg e2, if_pos e.symm]
      omega
    · rw [if_neg e]
      by_cases e2 : j = i
      · rw [if_pos e2]
        subst e2
        omega
      · rw [if_neg e2, if_neg (fun h => e h.symm)]
        omega

/-- Nobody asks. -/
def mmL (l : List Nd) : List Nd := (List.range l.length).map fun i => ⟨par l i, use l i, 0⟩
/-- All use so much, and ask for all of it. -/
def nnL (l : List Nd) (U : List Int) : List Nd := (List.range l.length).map fun i => ⟨par l i, at0 U i, at0 U i⟩
theorem mmL_len (l : List Nd) : (mmL l).length = l.length := by simp [mmL]
theorem nnL_len (l : List Nd) (U : List Int) : (nnL l U).length = l.length := by simp [nnL]
theorem mmL_get {l : List Nd} {i : Nat} (hi : i < l.length) (d : Nd) : (mmL l).getD i d = ⟨par l i, use l i, 0⟩ := by simp [mmL, hi]
theorem nnL_get {l : List Nd} {U : List Int} {i : Nat} (hi : i < l.length) (d : Nd) : (nnL l U).getD i d = ⟨par l i, at0 U i, at0 U i⟩ := by simp [nnL, hi]
theorem out_get {l : List Nd} {i : Nat} (hi : ¬ i < l.length) (d : Nd) : l.getD i d = d := by simp [List.getD_eq_getElem?_getD, List.getElem?_eq_none (Nat.le_of_not_lt hi)]
theorem mmL_par (l : List Nd) (i : Nat) : par (mmL l) i = par l i := by
  by_cases hi : i < l.length
  · show ((mmL l).getD i _).p = _
    rw [mmL_get hi]
  · unfold par
    rw [out_get (by rw [mmL_len]; exact hi), out_get hi]
theorem nnL_par (l : List Nd) (U : List Int) (i : Nat) : par (nnL l U) i = par l i := by
  by_cases hi : i < l.length
  · show ((nnL l U).getD i _).p = _
    rw [nnL_get hi]
  · unfold par
    rw [out_get (by rw [nnL_len]; exact hi), out_get hi]
theorem vd_made {l m : List Nd} (h : vd l = true) (hlen : m.length = l.length) (hp : ∀ i, par m i = par l i) (hu : ∀ i, i < l.length → 0 ≤ use m i ∧ use m i ≤ 1099511627776) (ho : ∀ i, i < l.length → 0 ≤ own m i ∧ own m i ≤ 1099511627776) : vd m = true := by
  simp only [vd, Bool.and_eq_true] at h ⊢
  refine ⟨vdN_mk fun i hi => ?_, by rw [hlen]; exact h.2⟩
  rw [hlen] at hi
  have h1 := vdN_at h.1 hi
  have hpi := hp i
  have hui := hu i hi
  have hoi := ho i hi
  unfold par at hpi
  unfold use at hui
  unfold own at hoi
  unfold vd1 at h1 ⊢
  simp only [Bool.and_eq_true, decide_eq_true_eq] at h1 ⊢
  rw [hpi]
  exact ⟨⟨⟨⟨h1.1.1.1.1, hui.1⟩, hui.2⟩, hoi.1⟩, hoi.2⟩
theorem vd_mm {l : List Nd} (h : vd l = true) : vd (mmL l) = true := by
  refine vd_made h (mmL_len l) (mmL_par l) (fun i hi => ?_) (fun i hi => ?_)
  · show 0 ≤ ((mmL l).getD i _).u ∧ ((mmL l).getD i _).u ≤ _
    rw [mmL_get hi]
    exact (ok_of h).u i
  · show 0 ≤ ((mmL l).getD i _).o ∧ ((mmL l).getD i _).o ≤ _
    rw [mmL_get hi]
    simp
theorem vd_nn {l : List Nd} (h : vd l = true) {U : List Int} (hU : NI l 0 U) : vd (nnL l U) = true := by
  have hb : ∀ i, i < l.length → 0 ≤ at0 U i ∧ at0 U i ≤ 1099511627776 := fun i hi => by
    have := hU.fin i (by omega) hi
    have := (ok_of h).len
    exact ⟨hU.pos i, by omega⟩
  refine vd_made h (nnL_len l U) (nnL_par l U) (fun i hi => ?_) (fun i hi => ?_)
  · show 0 ≤ ((nnL l U).getD i _).u ∧ ((nnL l U).getD i _).u ≤ _
    rw [nnL_get hi]
    exact hb i hi
  · show 0 ≤ ((nnL l U).getD i _).o ∧ ((nnL l U).getD i _).o ≤ _
    rw [nnL_get hi]
    exact hb i hi
theorem none_a {l : List Nd} (h : vd l = true) {T : Nat} (hT : T < l.length) : ∃ E : List Int, effL (mmL l) T = E ∧ E.length = l.length ∧ ∀ i, i < l.length → at0 E i = 0 := by
  have hv := vd_mm h
  refine ⟨_, rfl, by rw [effL_len hv (by rw [mmL_len]; exact hT), efN_len, mmL_len], fun i hi => ?_⟩
  rw [effL_len hv (by rw [mmL_len]; exact hT)]
  unfold at0
  rw [eff_get _ _ (by rw [mmL_len]; exact hi)]
  have h1 := eff_lo (ok_of hv) T (i := i) (by rw [mmL_len]; exact hi)
  have h2 : low (mmL l) i ≤ 0 := by
    have : own (mmL l) i = 0 := by show ((mmL l).getD i _).o = 0; rw [mmL_get hi]
    unfold low
    omega
  omega
theorem none_b {l : List Nd} (h : vd l = true) {T : Nat} (hT : T < l.length) {U : List Int} (hU : NI l 0 U) : ∃ E : List Int, effL (nnL l U) T = E ∧ E.length = l.length ∧
    ∀ i : Nat, i < l.length → (i ≠ T → at0 E i = at0 U i → 0 < at0 U i → held (nnL l U) E T i = true) ∧ (par l i = T → at0 E i = at0 U i) := by
  have hv := vd_nn h hU
  have hok := ok_of hv
  have hlen := nnL_len l U
  have hus : ∀ i, i < l.length → use (nnL l U) i = at0 U i := fun i hi => by show ((nnL l U).getD i _).u = _; rw [nnL_get hi]
  have hE := effL_len hv (T := T) (by rw [hlen]; exact hT)
  have hat : ∀ i, i < l.length → at0 (effL (nnL l U) T) i = eff (nnL l U) T i := fun i hi => by
    rw [hE]
    unfold at0
    exact eff_get _ _ (by rw [hlen]; exact hi)
  have hall : ∀ i, own (nnL l U) i = use (nnL l U) i := fun i => by
    by_cases hi : i < l.length
    · show ((nnL l U).getD i _).o = ((nnL l U).getD i _).u
      rw [nnL_get hi]
    · show ((nnL l U).getD i _).o = ((nnL l U).getD i _).u
      rw [out_get (by rw [hlen]; exact hi)]
  have hup : ∀ g : Nat, g < (nnL l U).length → sumN (fun k => if par (nnL l U) k = g then use (nnL l U) k else 0) (nnL l U).length ≤ use (nnL l U) g := by
    intro g hg
    rw [hlen] at hg ⊢
    rw [hus g hg]
    have e : sumN (fun k => if par (nnL l U) k = g then use (nnL l U) k else 0) l.length = kidN l U 0 g := sum_eq fun k hk => by
      rw [nnL_par, hus k hk]
      simp
    rw [e]
    exact hU.kid g hg
  refine ⟨_, rfl, by rw [hE, efN_len, hlen], fun i hi => ⟨fun h1 h2 h3 => ?_, fun h1 => ?_⟩⟩
  · have hne : (i : Int) ≠ T := by omega
    have hb : blw (nnL l U) T i = true := by
      cases hb : blw (nnL l U) T i with
      | true => rfl
      | false =>
        rw [hat i hi, eff_none _ (.inr hb)] at h2
        omega
    have hm : may (nnL l U) (effL (nnL l U) T).length T = true := by
      unfold may isPlc
      rw [hv, hE, efN_len, hlen]
      simp [hT]
    unfold held
    rw [hm, hb, hd_yes _ _ hne (by rw [hus i hi, h2]; exact Int.le_refl _)]
    unfold isPlc
    rw [hlen]
    simp [hi]
  · have hl := ok_of h
    have hp := par_lo hl hi
    have hne : (i : Int) ≠ T := by omega
    have hb : blw (nnL l U) T i = true := by
      rw [blw_up hok (by rw [hlen]; exact hi) hne, nnL_par, h1, blw_self (by omega)]
    rw [hat i hi, eff_all hok T hall hup (i + 1) i (by omega) (by rw [hlen]; exact hi) hne hb, hus i hi]
end Go.Proofs.Ytimgpikgkbjliaa
