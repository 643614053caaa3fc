/-
  A group and all above it, as a list. No program is named here.
-/
import Derived.Test.YtimgpikgkbjliaaMath
namespace Go.Proofs.Ytimgpikgkbjliaa

def chN (l : List Nd) : Nat → Int → List Int
  | 0, _ => []
  | n + 1, g => if g < 0 then [] else g :: chN l n (par l g.toNat)
def chain (l : List Nd) (g : Int) : List Int := chN l (g.toNat + 1) g
theorem chN_more {l : List Nd} (h : Ok l) : ∀ (n m : Nat) (g : Int), g < l.length → g.toNat < n → g.toNat < m → chN l n g = chN l m g := by
  intro n
  induction n with
  | zero => intro m g _ h1; omega
  | succ n ih =>
    intro m g hg h1 h2
    obtain ⟨m, rfl⟩ : ∃ k, m = k + 1 := ⟨m - 1, by omega⟩
    simp only [chN]
    by_cases g0 : g < 0
    · rw [if_pos g0, if_pos g0]
    · rw [if_neg g0, if_neg g0]
      by_cases gz : g = 0
      · subst gz
        have hr := h.root (by omega)
        have e : par l (Int.toNat 0) = -1 := hr
        rw [e]
        cases n <;> cases m <;> simp [chN]
      · obtain ⟨u1, u2⟩ := h.up g.toNat (by omega) (by omega)
        rw [ih m _ (by omega) (by omega) (by omega)]
theorem chain_neg {l : List Nd} {g : Int} (h : g < 0) : chain l g = [] := by simp [chain, chN, h]
theorem par_lo {l : List Nd} (h : Ok l) {i : Nat} (hi : i < l.length) : -1 ≤ par l i ∧ par l i < i := by
  by_cases iz : i = 0
  · subst iz
    rw [h.root hi]; omega
  · obtain ⟨u1, u2⟩ := h.up i (by omega) hi
    omega
theorem chain_step {l : List Nd} (h : Ok l) {i : Nat} (hi : i < l.length) : chain l i = (i : Int) :: chain l (par l i) := by
  unfold chain
  have h0 : ¬ (i : Int) < 0 := by omega
  simp only [chN, h0, if_false, Int.toNat_natCast]
  by_cases hp : par l i < 0
  · rw [if_pos hp]
    congr 1
    cases i <;> simp [chN, hp]
  · rw [if_neg hp]
    congr 1
    have hlo := par_lo h hi
    have e := chN_more h i ((par l i).toNat + 1) (par l i) (by omega) (by omega) (by omega)
    rw [e]
    simp only [chN]
    rw [if_neg hp]
theorem chN_len (l : List Nd) : ∀ (n : Nat) (g : Int), (chN l n g).length ≤ n := by
  intro n
  induction n with
  | zero => intro g; simp [chN]
  | succ n ih =>
    intro g
    simp only [chN]
    split
    · simp
    · have := ih (par l g.toNat)
      simp only [List.length_cons]
      omega
theorem chain_len (l : List Nd) (g : Int) : (chain l g).length ≤ g.toNat + 1 := chN_len l _ _
theorem bel_mem (l : List Nd) (t : Int) : ∀ (n : Nat) (g : Int), bel l t n g = true ↔ t ∈ chN l n g := by
  intro n
  induction n with
  | zero => intro g; simp [bel, chN]
  | succ n ih =>
    intro g
    by_cases g0 : g < 0
    · simp [bel, chN, g0]
    · by_cases e : g = t
      · subst e; simp [bel, chN, g0]
      · have e2 : ¬ t = g := fun h => e h.symm
        simp [bel, chN, g0, e, e2, ih]
theorem blw_yes (l : List Nd) (t g : Int) : blw l t g = true ↔ t ∈ chain l g := bel_mem l t _ _
theorem blw_no (l : List Nd) (t g : Int) : blw l t g = false ↔ t ∉ chain l g := by
  rw [← blw_yes]
  cases blw l t g <;> simp
/-- Of a list: is one ahead of the target such that it uses no more than its E? -/
def hdL (l : List Nd) (E : Nat → Int) (t : Int) : List Int → Bool
  | [] => false
  | x :: r => if x = t then false else if use l x.toNat ≤ E x.toNat then true else hdL l E t r
theorem hel_list (l : List Nd) (E : Nat → Int) (t : Int) : ∀ (n : Nat) (g : Int), hel l E t n g = hdL l E t (chN l n g) := by
  intro n
  induction n with
  | zero => intro g; rfl
  | succ n ih =>
    intro g
    simp only [hel, chN]
    by_cases g0 : g < 0
    · rw [if_pos g0, if_pos g0]; rfl
    · rw [if_neg g0, if_neg g0]
      simp only [hdL]
      rw [ih]
theorem hd_list (l : List Nd) (E : Nat → Int) (t g : Int) : hd l E t g = hdL l E t (chain l g) := hel_list l E t _ _
/-- So far none was. -/
def noneYet (l : List Nd) (E : Nat → Int) (t : Int) (pre : List Int) : Prop := ∀ y ∈ pre, y ≠ t ∧ ¬ use l y.toNat ≤ E y.toNat
theorem none_nil (l : List Nd) (E : Nat → Int) (t : Int) : noneYet l E t [] := fun y hy => by cases hy
theorem none_add {l : List Nd} {E : Nat → Int} {t : Int} {pre : List Int} {x : Int} (h : noneYet l E t pre) (h1 : x ≠ t) (h2 : ¬ use l x.toNat ≤ E x.toNat) : noneYet l E t (pre ++ [x]) := by
  intro y hy
  rcases List.mem_append.1 hy with hy | hy
  · exact h y hy
  · have : y = x := by simpa using hy
    subst this
    exact ⟨h1, h2⟩
theorem hdL_skip {l : List Nd} {E : Nat → Int} {t : Int} {pre : List Int} (h : noneYet l E t pre) (r : List Int) : hdL l E t (pre ++ r) = hdL l E t r := by
  induction pre with
  | nil => rfl
  | cons x pre ih =>
    obtain ⟨h1, h2⟩ := h x (by simp)
    show hdL l E t (x :: (pre ++ r)) = _
    simp only [hdL]
    rw [if_neg h1, if_neg h2]
    exact ih fun y hy => h y (by simp [hy])
theorem hdL_none {l : List Nd} {E : Nat → Int} {t : Int} {pre : List Int} (h : noneYet l E t pre) : hdL l E t pre = false := by
  have := hdL_skip h []
  rwa [List.append_nil] at this
theorem hdL_target {l : List Nd} {E : Nat → Int} {t : Int} {pre r : List Int} (h : noneYet l E t pre) : hdL l E t (pre ++ t :: r) = false := by
  rw [hdL_skip h]
  simp [hdL]
theorem hdL_yes {l : List Nd} {E : Nat → Int} {t x : Int} {pre r : List Int} (h : noneYet l E t pre) (h1 : x ≠ t) (h2 : use l x.toNat ≤ E x.toNat) : hdL l E t (pre ++ x :: r) = true := by
  rw [hdL_skip h]
  simp [hdL, h1, h2]
/-- Each of a chain is a place. -/
theorem chN_places {l : List Nd} (h : Ok l) : ∀ (n : Nat) (g : Int), g < l.length → ∀ y ∈ chN l n g, 0 ≤ y ∧ y < l.length := by
  intro n
  induction n with
  | zero => intro g _ y hy; simp [chN] at hy
  | succ n ih =>
    intro g hg y hy
    simp only [chN] at hy
    split at hy
    · cases hy
    · rename_i g0
      rcases List.mem_cons.1 hy with rfl | hy
      · omega
      · have hlo := par_lo h (i := g.toNat) (by omega)
        exact ih _ (by omega) y hy
theorem chain_places {l : List Nd} (h : Ok l) {g : Int} (hg : g < l.length) : ∀ y ∈ chain l g, 0 ≤ y ∧ y < l.length := chN_places h _ g hg
/-- Places as numbers. -/
def pv {n : Nat} (i : Fin n) : Int := (i.val : Int)
end Go.Proofs.Ytimgpikgkbjliaa
