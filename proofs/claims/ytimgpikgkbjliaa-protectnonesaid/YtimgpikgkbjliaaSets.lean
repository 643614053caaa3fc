/-
  One group turned: what stays. No program is named here.
-/
import Derived.Test.YtimgpikgkbjliaaOwn
import Derived.Test.YtimgpikgkbjliaaP8
namespace Go.Proofs.Ytimgpikgkbjliaa

theorem getD_set_ne {L : List Nd} {i g : Nat} {y : Nd} (h : i ≠ g) (d : Nd) : (L.set g y).getD i d = L.getD i d := by
  simp only [List.getD_eq_getElem?_getD]
  rw [List.getElem?_set_ne (fun e => h e.symm)]
theorem getD_set_eq {L : List Nd} {g : Nat} {y : Nd} (h : g < L.length) (d : Nd) : (L.set g y).getD g d = y := by simp [h]
theorem par_set {L : List Nd} {g : Nat} (hg : g < L.length) (u o : Int) (i : Nat) : par (L.set g ⟨par L g, u, o⟩) i = par L i := by
  by_cases e : i = g
  · subst e
    unfold par
    rw [getD_set_eq hg]
  · unfold par
    rw [getD_set_ne e]
theorem low_set_ne {L : List Nd} {g i : Nat} {y : Nd} (h : i ≠ g) : low (L.set g y) i = low L i := by
  unfold low own use
  rw [getD_set_ne h]
theorem low_set_eq {L : List Nd} {g : Nat} (hg : g < L.length) (p u o : Int) : low (L.set g ⟨p, u, o⟩) g = min o u := by
  unfold low own use
  rw [getD_set_eq hg]
theorem vd_set {L : List Nd} (h : vd L = true) {g : Nat} (hg : g < L.length) {u o : Int} (hu : 0 ≤ u ∧ u ≤ 1099511627776) (ho : 0 ≤ o ∧ o ≤ 1099511627776) : vd (L.set g ⟨par L g, u, o⟩) = true := by
  simp only [vd, Bool.and_eq_true, List.length_set] at h ⊢
  refine ⟨vdN_mk fun i hi => ?_, h.2⟩
  have h1 := vdN_at h.1 hi
  by_cases e : i = g
  · subst e
    rw [getD_set_eq hg]
    have hp : (L.getD i ⟨-1, 0, 0⟩).p = par L i := rfl
    unfold vd1 at h1 ⊢
    simp only [Bool.and_eq_true, decide_eq_true_eq] at h1 ⊢
    rw [hp] at h1
    exact ⟨⟨⟨⟨h1.1.1.1.1, hu.1⟩, hu.2⟩, ho.1⟩, ho.2⟩
  · rw [getD_set_ne e]
    exact h1
theorem efN_ext {l m : List Nd} {t : Int} : ∀ n : Nat, (∀ i, i < n → eff m t i = eff l t i) → efN m t n = efN l t n := by
  intro n
  induction n with
  | zero => intro _; rfl
  | succ n ih =>
    intro h
    simp only [efN]
    rw [← eff_eq, ← eff_eq, ih fun i hi => h i (by omega), h n (by omega)]
/-- What is not at the target or below it counts for nothing. -/
theorem effL_apart {L : List Nd} (h : vd L = true) {T g : Nat} (hT : T < L.length) (hg : g < L.length) {u : Int} (hu : 0 ≤ u ∧ u ≤ 1099511627776) (hb : blw L T g = false) :
    effL (L.set g ⟨par L g, u, u⟩) T = effL L T := by
  have hv := vd_set h hg hu hu
  have hl := ok_of h
  have hm := ok_of hv
  have hlen : (L.set g ⟨par L g, u, u⟩).length = L.length := by simp
  unfold effL isPlc
  rw [hv, h, hlen]
  simp only [hT, Int.ofNat_lt, Bool.and_true, if_true, Int.natCast_nonneg, decide_true]
  rw [efN_ext L.length]
  intro i hi
  exact eff_apart hl hm hlen (par_set hg u u) (by omega) hb (fun i hi => low_set_ne hi) (i + 1) i (by omega) hi
theorem effL_len {L : List Nd} (h : vd L = true) {T : Nat} (hT : T < L.length) : effL L T = efN L T L.length := by
  unfold effL isPlc
  rw [h]
  simp [hT]
end Go.Proofs.Ytimgpikgkbjliaa
