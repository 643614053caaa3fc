/-
  What is below a group, counted by its kids; a chain step by step. No program is named here.
-/
import Derived.Test.YtbceadnhfihlfaaMath
namespace Go.Proofs.Ytbceadnhfihlfaa

def b1 (b : Bool) : Nat := if b then 1 else 0
theorem count_one {l : List Int} (h : l.Nodup) (x : Int) : l.countP (fun k => decide (k = x)) = b1 (decide (x ∈ l)) := by
  induction l with
  | nil => rfl
  | cons a l ih =>
    rw [List.nodup_cons] at h
    rw [List.countP_cons, ih h.2]
    by_cases hax : a = x
    · subst hax
      simp [b1, h.1]
    · have : x ≠ a := fun e => hax e.symm
      simp [b1, hax, this]
theorem count_or {l : List Int} (p q : Int → Bool) (h : ∀ k ∈ l, ¬ (p k = true ∧ q k = true)) : l.countP (fun k => p k || q k) = l.countP p + l.countP q := by
  induction l with
  | nil => rfl
  | cons a l ih =>
    rw [List.countP_cons, List.countP_cons, List.countP_cons, ih fun k hk => h k (List.mem_cons_of_mem _ hk)]
    have := h a List.mem_cons_self
    cases hp : p a <;> cases hq : q a <;> simp_all <;> omega

theorem one_kid {G : Gr} (hG : Ok G) {g : Int} : ∀ (n : Nat) (x : Int), x.toNat ≤ n → lv G x = true → b1 (has G g x) = b1 (decide (x = g)) + (kids G g).countP (fun k => has G k x) := by
  intro n
  induction n with
  | zero =>
    intro x hx hl
    have := lv_lo hl
    obtain rfl : x = 0 := by omega
    have h0 : (kids G g).countP (fun k => has G k 0) = 0 := by
      rw [List.countP_eq_zero]
      intro k hk
      obtain ⟨-, h2, -⟩ := mem_kids.1 hk
      simp [has, chain_root hG, h2]
    rw [h0]
    simp [has, chain_root hG, b1, eq_comm]
  | succ n ih =>
    intro x hx hl
    by_cases h0 : x = 0
    · exact ih x (by omega) hl
    · obtain ⟨u1, u2, u3⟩ := hG.up x hl h0
      have hi := ih (pr G x) (by omega) u3
      have hc : (kids G g).countP (fun k => has G k x) = (kids G g).countP (fun k => decide (k = x)) + (kids G g).countP (fun k => has G k (pr G x)) := by
        rw [← count_or]
        · refine congrArg (fun f => (kids G g).countP f) (funext fun k => ?_)
          simp [has, chain_live hG hl]
        · rintro k - ⟨h1, h2⟩
          simp only [decide_eq_true_eq] at h1
          simp only [has, decide_eq_true_eq] at h2
          have := (chain_mem hG h2).1
          omega
      rw [hc, count_one (l := kids G g) (those_nodup G _) x]
      have e1 : decide (x ∈ kids G g) = decide (pr G x = g) := by
        refine decide_eq_decide.2 ?_
        rw [mem_kids]
        exact ⟨fun h => h.2.2, fun h => ⟨hl, h0, h⟩⟩
      have e1' : b1 (decide (x ∈ kids G g)) = b1 (decide (pr G x = g)) := by rw [e1]
      have e2 : b1 (has G g x) = b1 (decide (x = g)) + b1 (has G g (pr G x)) := by
        by_cases hxg : x = g
        · subst hxg
          have : x ∉ chain G (pr G x) := fun hm => by have := (chain_mem hG hm).1; omega
          simp [has, chain_live hG hl, b1, this]
        · have : ¬ g = x := fun e => hxg e.symm
          simp [has, chain_live hG hl, b1, hxg, this]
      rw [e2, hi, e1']
theorem one_kid' {G : Gr} (hG : Ok G) {g : Int} (hg : lv G g = true) (x : Int) : b1 (has G g x) = b1 (decide (x = g)) + (kids G g).countP (fun k => has G k x) := by
  cases hl : lv G x with
  | true => exact one_kid hG _ x (Nat.le_refl _) hl
  | false =>
    have hxg : x ≠ g := by
      intro e
      subst e
      rw [hg] at hl
      cases hl
    have h0 : (kids G g).countP (fun k => has G k x) = 0 := by
      rw [List.countP_eq_zero]
      intro k hk
      simp [has, chain_dead hl]
    rw [h0]
    simp [has, chain_dead hl, b1, hxg]
def sumB (f : Int → Nat) (l : List Int) : Nat := (l.map f).sum
theorem sumB_add (f g : Int → Nat) (l : List Int) : sumB (fun x => f x + g x) l = sumB f l + sumB g l := by
  induction l with
  | nil => rfl
  | cons a l ih =>
    simp only [sumB, List.map_cons, List.sum_cons] at ih ⊢
    omega
theorem sumB_count (p : Int → Bool) (l : List Int) : sumB (fun x => b1 (p x)) l = l.countP p := by
  induction l with
  | nil => rfl
  | cons a l ih =>
    rw [List.countP_cons, ← ih]
    simp only [sumB, List.map_cons, List.sum_cons, b1]
    omega
theorem sumB_swap (p : Int → Int → Bool) (l m : List Int) : sumB (fun x => m.countP fun k => p k x) l = sumB (fun k => l.countP fun x => p k x) m := by
  induction m with
  | nil =>
    show sumB (fun _ => 0) l = 0
    induction l with
    | nil => rfl
    | cons a l ih => simpa [sumB] using ih
  | cons b m ih =>
    have : (fun x => (b :: m).countP fun k => p k x) = fun x => (m.countP fun k => p k x) + b1 (p b x) := funext fun x => by rw [List.countP_cons]; rfl
    have hpb : l.countP (p b) = l.countP (fun x => p b x) := rfl
    rw [this, sumB_add, ih, sumB_count]
    simp only [sumB, List.map_cons, List.sum_cons]
    omega
theorem bel_count (G : Gr) (g : Int) : (bel G g).length = (idx G).countP (has G g) := by
  unfold bel those
  rw [List.countP_eq_length_filter]
  congr 1
  refine List.filter_congr fun x _ => ?_
  cases h : has G g x with
  | false => simp
  | true =>
    simp only [has, decide_eq_true_eq] at h
    simp [chain_src h]
/-- All that are below a group are itself, and what is below its kids. -/
theorem bel_kids {G : Gr} (hG : Ok G) {g : Int} (hg : lv G g = true) : (bel G g).length = 1 + sumB (fun k => (bel G k).length) (kids G g) := by
  rw [bel_count, ← sumB_count]
  rw [show (fun x => b1 (has G g x)) = fun x => b1 (decide (x = g)) + (kids G g).countP (fun k => has G k x) from funext fun x => one_kid' hG hg x]
  rw [sumB_add, sumB_swap, sumB_count, count_one (idx_nodup G)]
  have : g ∈ idx G := mem_idx.2 (lv_lo hg)
  rw [show b1 (decide (g ∈ idx G)) = 1 by simp [b1, this]]
  congr 2
  exact funext fun k => (bel_count G k).symm
theorem bel_len (G : Gr) (g : Int) : (bel G g).length ≤ G.length := those_len _ _
theorem kids_len (G : Gr) (g : Int) : (kids G g).length ≤ G.length := those_len _ _
theorem dep_kid {G : Gr} (hG : Ok G) {g k : Int} (h : k ∈ kids G g) : dep G k = dep G g + 1 ∧ par G k = g := by
  obtain ⟨h1, h2, h3⟩ := mem_kids.1 h
  refine ⟨?_, by rw [par_live h1, h3]⟩
  unfold dep
  rw [chain_live hG h1, h3]
  simp
theorem sumB_take (f : Int → Nat) (l : List Int) (i : Nat) (h : i < l.length) : sumB f (l.take (i + 1)) = sumB f (l.take i) + f l[i] := by
  unfold sumB
  rw [List.take_succ_eq_append_getElem h, List.map_append, List.sum_append]
  simp only [List.map_cons, List.map_nil, List.sum_cons, List.sum_nil, Nat.add_zero]
theorem sumB_le (f : Int → Nat) (l : List Int) (b : Nat) (h : ∀ x, f x ≤ b) : sumB f l ≤ l.length * b := by
  induction l with
  | nil => simp [sumB]
  | cons a l ih =>
    have := h a
    simp only [sumB, List.map_cons, List.sum_cons, List.length_cons] at ih ⊢
    rw [Nat.add_mul]
    omega
theorem dep_le {G : Gr} (hG : Ok G) (x : Int) : dep G x ≤ 7 := by
  have := chain_len hG x
  unfold dep
  omega
theorem dep_pos {G : Gr} (hG : Ok G) {x : Int} (h : lv G x = true) : 0 ≤ dep G x := by
  have := chain_pos hG h
  unfold dep
  omega

/-! ### a chain step by step -/
theorem chain_first {G : Gr} (hG : Ok G) {g : Int} (hg : lv G g = true) : (chain G g)[0]? = some g := by rw [chain_live hG hg]; rfl
theorem chain_step {G : Gr} (hG : Ok G) : ∀ (n : Nat) (g : Int), g.toNat ≤ n → ∀ i (h : i < (chain G g).length), lv G (chain G g)[i] = true ∧ (∀ h2 : i + 1 < (chain G g).length, par G (chain G g)[i] = (chain G g)[i + 1]) ∧ (i + 1 = (chain G g).length → (chain G g)[i] = 0) := by
  intro n
  induction n with
  | zero =>
    intro g hg i h
    cases hl : lv G g with
    | false => rw [chain_dead hl] at h; simp at h
    | true =>
      have := lv_lo hl
      obtain rfl : g = 0 := by omega
      have e := chain_root hG
      have h' : i < [(0 : Int)].length := by rw [← e]; exact h
      have : i = 0 := by simpa using h'
      subst this
      simp only [e]
      exact ⟨hG.live, fun h2 => by simp at h2, fun _ => rfl⟩
  | succ n ih =>
    intro g hg i h
    cases hl : lv G g with
    | false => rw [chain_dead hl] at h; simp at h
    | true =>
      by_cases h0 : g = 0
      · exact ih g (by omega) i h
      · obtain ⟨u1, u2, u3⟩ := hG.up g hl h0
        have e := chain_live hG hl
        have hi := ih (pr G g) (by omega)
        have hp := chain_pos hG u3
        cases i with
        | zero =>
          simp only [e, List.getElem_cons_zero, List.length_cons, List.getElem_cons_succ]
          refine ⟨hl, fun h2 => ?_, fun h2 => by omega⟩
          rw [par_live hl]
          have := chain_first hG u3
          rw [List.getElem?_eq_getElem hp] at this
          exact (Option.some.inj this).symm
        | succ i =>
          simp only [e, List.getElem_cons_succ, List.length_cons]
          rw [e, List.length_cons] at h
          obtain ⟨a, b, c⟩ := hi i (by omega)
          exact ⟨a, fun h2 => b (by omega), fun h2 => c (by omega)⟩
theorem par_root {G : Gr} (hG : Ok G) : par G 0 = -1 := by rw [par_live hG.live, hG.root]

/-! ### who goes -/
theorem remE_ok {G : Gr} {g : Int} : remE G g = 0 ↔ lv G g = true ∧ g ≠ 0 ∧ kids G g = [] := by
  unfold remE
  by_cases h0 : g = 0
  · simp [h0]
  · cases hl : lv G g with
    | false => simp [h0]
    | true =>
      cases hk : kids G g with
      | nil => simp [h0]
      | cons a l => simp [h0]
theorem remG_err {G : Gr} {g : Int} (h : remE G g ≠ 0) : remG G g = G := by
  unfold remG
  rw [if_neg]
  intro hc
  refine h (remE_ok.2 ?_)
  simp only [Bool.and_eq_true, decide_eq_true_eq, List.isEmpty_iff] at hc
  exact ⟨hc.1.2, hc.1.1, hc.2⟩
theorem remG_went {G : Gr} {g : Int} (h : remE G g = 0) (x : Int) : lv (remG G g) x = (lv G x && decide (x ≠ g)) := by
  obtain ⟨h1, h2, h3⟩ := remE_ok.1 h
  unfold remG
  rw [if_pos (by simp [h1, h2, h3]), lv_set h1]
theorem addE_ok {G : Gr} {p : Int} (h : addE G p = 0) : addG G p = G ++ [(p, true)] ∧ addN G p = G.length := by
  unfold addE at h
  cases hl : lv G p with
  | false => simp [hl] at h
  | true =>
    by_cases hd : dep G p < 7
    · by_cases hf : G.length < 64
      · simp [addG, addN, hl, hd, hf]
      · simp [hl, hd, hf] at h
    · simp [hl, hd] at h
theorem addE_err {G : Gr} {p : Int} (h : addE G p ≠ 0) : addG G p = G := by
  unfold addG
  rw [if_neg]
  intro hc
  simp only [Bool.and_eq_true, decide_eq_true_eq] at hc
  exact h (by simp [addE, hc.1.1, hc.1.2, hc.2])
end Go.Proofs.Ytbceadnhfihlfaa
