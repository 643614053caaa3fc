/-
  Groups below groups, told as a list of parents and of who lives: no program is named here.
-/
namespace Go.Proofs.Ytbceadnhfihlfaa

abbrev Gr := List (Int × Bool)
/-- Does a group live? -/
def lv (G : Gr) (x : Int) : Bool := decide (0 ≤ x) && (match G[x.toNat]? with | some p => p.2 | none => false)
/-- What is written as the one above. -/
def pr (G : Gr) (x : Int) : Int := match G[x.toNat]? with | some p => p.1 | none => -1
/-- The one above, as it is told. -/
def par (G : Gr) (x : Int) : Int := if lv G x then pr G x else -1
def chF (G : Gr) : Nat → Int → List Int
  | 0, _ => []
  | k + 1, x => if lv G x then x :: chF G k (pr G x) else []
/-- A group and all above it. -/
def chain (G : Gr) (x : Int) : List Int := chF G (x.toNat + 1) x
def dep (G : Gr) (x : Int) : Int := ((chain G x).length : Int) - 1
def idx (G : Gr) : List Int := (List.range G.length).map Int.ofNat
def kid (G : Gr) (g x : Int) : Bool := decide (x ≠ 0) && par G x == g
def has (G : Gr) (g x : Int) : Bool := decide (g ∈ chain G x)
def those (G : Gr) (f : Int → Bool) : List Int := (idx G).filter fun x => lv G x && f x
def kids (G : Gr) (g : Int) : List Int := those G (kid G g)
def bel (G : Gr) (g : Int) : List Int := those G (has G g)
def addG (G : Gr) (p : Int) : Gr := if lv G p && decide (dep G p < 7) && decide (G.length < 64) then G ++ [(p, true)] else G
def addN (G : Gr) (p : Int) : Int := if lv G p && decide (dep G p < 7) && decide (G.length < 64) then G.length else -1
def addE (G : Gr) (p : Int) : Int := if !lv G p then 2 else if decide (dep G p < 7) then (if decide (G.length < 64) then 0 else 3) else 21
def remG (G : Gr) (g : Int) : Gr := if decide (g ≠ 0) && lv G g && (kids G g).isEmpty then G.set g.toNat (0, false) else G
def remE (G : Gr) (g : Int) : Int := if g = 0 then 1 else if !lv G g then 2 else if (kids G g).isEmpty then 0 else 4
def newG : Gr := [(-1, true)]
structure Ok (G : Gr) : Prop where
  ne : 0 < G.length
  le : G.length ≤ 64
  live : lv G 0 = true
  root : pr G 0 = -1
  up : ∀ x, lv G x = true → x ≠ 0 → 0 ≤ pr G x ∧ pr G x < x ∧ lv G (pr G x) = true
  deep : ∀ x, lv G x = true → (chain G x).length ≤ 8

theorem lv_lo {G : Gr} {x : Int} (h : lv G x = true) : 0 ≤ x ∧ x < G.length := by
  unfold lv at h
  simp only [Bool.and_eq_true, decide_eq_true_eq] at h
  refine ⟨h.1, ?_⟩
  have h2 := h.2
  split at h2
  · rename_i p hp
    have := (List.getElem?_eq_some_iff.1 hp).1
    omega
  · cases h2
theorem lv_neg {G : Gr} {x : Int} (h : x < 0) : lv G x = false := by
  cases hq : lv G x with
  | false => rfl
  | true => have := lv_lo hq; omega
theorem lv_high {G : Gr} {x : Int} (h : (G.length : Int) ≤ x) : lv G x = false := by
  cases hq : lv G x with
  | false => rfl
  | true => have := lv_lo hq; omega
theorem lv_nat {G : Gr} {k : Nat} (h : k < G.length) : lv G k = G[k].2 := by simp [lv, h]
theorem pr_nat {G : Gr} {k : Nat} (h : k < G.length) : pr G k = G[k].1 := by simp [pr, h]

theorem chF_stable {G : Gr} (hG : Ok G) : ∀ (k : Nat) (x : Int), x.toNat + 1 ≤ k → chF G k x = chain G x := by
  have key : ∀ (k j : Nat) (x : Int), x.toNat + 1 ≤ k → x.toNat + 1 ≤ j → chF G k x = chF G j x := by
    intro k
    induction k with
    | zero => intro j x h; omega
    | succ k ih =>
      intro j x h1 h2
      obtain ⟨j, rfl⟩ : ∃ i, j = i + 1 := ⟨j - 1, by omega⟩
      unfold chF
      cases hl : lv G x with
      | false => rfl
      | true =>
        have h3 := lv_lo hl
        by_cases h0 : x = 0
        · subst h0
          rw [hG.root]
          have hn : lv G (-1) = false := lv_neg (by omega)
          cases k <;> cases j <;> simp [chF, hn]
        · have h4 := hG.up x hl h0
          simp only [if_true]
          rw [ih j (pr G x) (by omega) (by omega)]
  intro k x h
  exact key k _ x h (Nat.le_refl _)
theorem chain_dead {G : Gr} {x : Int} (h : lv G x = false) : chain G x = [] := by simp [chain, chF, h]
theorem chain_live {G : Gr} (hG : Ok G) {x : Int} (h : lv G x = true) : chain G x = x :: chain G (pr G x) := by
  have h3 := lv_lo h
  conv => lhs; unfold chain chF
  simp only [h, if_true]
  by_cases h0 : x = 0
  · subst h0
    rw [hG.root]
    have hn : lv G (-1) = false := lv_neg (by omega)
    rw [chain_dead hn]
    rfl
  · have h4 := hG.up x h h0
    rw [chF_stable hG _ _ (by omega)]
theorem chain_root {G : Gr} (hG : Ok G) : chain G 0 = [0] := by
  rw [chain_live hG hG.live, hG.root, chain_dead (lv_neg (by omega))]
theorem chain_le {G : Gr} (hG : Ok G) : ∀ (n : Nat) (x : Int), x.toNat ≤ n → ∀ y ∈ chain G x, y ≤ x ∧ lv G y = true := by
  intro n
  induction n with
  | zero =>
    intro x hx y hy
    cases hl : lv G x with
    | false => rw [chain_dead hl] at hy; cases hy
    | true =>
      have := lv_lo hl
      obtain rfl : x = 0 := by omega
      rw [chain_root hG] at hy
      simp at hy
      subst hy
      exact ⟨Int.le_refl _, hl⟩
  | succ n ih =>
    intro x hx y hy
    cases hl : lv G x with
    | false => rw [chain_dead hl] at hy; cases hy
    | true =>
      by_cases h0 : x = 0
      · subst h0
        rw [chain_root hG] at hy
        simp at hy
        subst hy
        exact ⟨Int.le_refl _, hl⟩
      · rw [chain_live hG hl] at hy
        rcases List.mem_cons.1 hy with rfl | hy
        · exact ⟨Int.le_refl _, hl⟩
        · have h4 := hG.up x hl h0
          have := ih (pr G x) (by omega) y hy
          exact ⟨by omega, this.2⟩
theorem chain_mem {G : Gr} (hG : Ok G) {x y : Int} (h : y ∈ chain G x) : y ≤ x ∧ lv G y = true := chain_le hG _ x (Nat.le_refl _) y h
theorem chain_self {G : Gr} (hG : Ok G) {x : Int} (h : lv G x = true) : x ∈ chain G x := by rw [chain_live hG h]; exact List.mem_cons_self
theorem chain_pos {G : Gr} (hG : Ok G) {x : Int} (h : lv G x = true) : 0 < (chain G x).length := by rw [chain_live hG h]; simp
theorem chain_src {G : Gr} {x y : Int} (h : y ∈ chain G x) : lv G x = true := by
  cases hl : lv G x with
  | true => rfl
  | false => rw [chain_dead hl] at h; cases h
theorem chain_len {G : Gr} (hG : Ok G) (x : Int) : (chain G x).length ≤ 8 := by
  cases hl : lv G x with
  | false => rw [chain_dead hl]; simp
  | true => exact hG.deep x hl
theorem dep_dead {G : Gr} {x : Int} (h : lv G x = false) : dep G x = -1 := by simp [dep, chain_dead h]
theorem dep_root {G : Gr} (hG : Ok G) : dep G 0 = 0 := by simp [dep, chain_root hG]
theorem par_dead {G : Gr} {x : Int} (h : lv G x = false) : par G x = -1 := by simp [par, h]
theorem par_live {G : Gr} {x : Int} (h : lv G x = true) : par G x = pr G x := by simp [par, h]
theorem mem_idx {G : Gr} {x : Int} : x ∈ idx G ↔ 0 ≤ x ∧ x < G.length := by
  simp only [idx, List.mem_map, List.mem_range]
  constructor
  · rintro ⟨a, h, rfl⟩
    exact ⟨Int.natCast_nonneg a, by simpa using h⟩
  · rintro ⟨h1, h2⟩
    exact ⟨x.toNat, by omega, by simpa using Int.toNat_of_nonneg h1⟩
theorem mem_those {G : Gr} {f : Int → Bool} {x : Int} : x ∈ those G f ↔ lv G x = true ∧ f x = true := by
  simp only [those, List.mem_filter, mem_idx, Bool.and_eq_true]
  constructor
  · exact fun h => h.2
  · exact fun h => ⟨lv_lo h.1, h⟩
theorem mem_kids {G : Gr} {g x : Int} : x ∈ kids G g ↔ lv G x = true ∧ x ≠ 0 ∧ pr G x = g := by
  unfold kids
  rw [mem_those]
  constructor
  · rintro ⟨h1, h2⟩
    simp only [kid, par_live h1, Bool.and_eq_true, decide_eq_true_eq, beq_iff_eq] at h2
    exact ⟨h1, h2⟩
  · rintro ⟨h1, h2⟩
    refine ⟨h1, ?_⟩
    simp only [kid, par_live h1, Bool.and_eq_true, decide_eq_true_eq, beq_iff_eq]
    exact h2
theorem mem_bel {G : Gr} {g x : Int} : x ∈ bel G g ↔ g ∈ chain G x := by
  unfold bel
  rw [mem_those]
  simp only [has, decide_eq_true_eq]
  exact ⟨fun h => h.2, fun h => ⟨chain_src h, h⟩⟩
theorem kids_dead {G : Gr} (hG : Ok G) {g : Int} (h : lv G g = false) : kids G g = [] := by
  refine List.eq_nil_iff_forall_not_mem.2 fun x hx => ?_
  obtain ⟨h1, h2, h3⟩ := mem_kids.1 hx
  have := (hG.up x h1 h2).2.2
  rw [h3, h] at this
  cases this
theorem bel_dead {G : Gr} (hG : Ok G) {g : Int} (h : lv G g = false) : bel G g = [] := by
  refine List.eq_nil_iff_forall_not_mem.2 fun x hx => ?_
  have := (chain_mem hG (mem_bel.1 hx)).2
  rw [h] at this
  cases this
theorem idx_nodup (G : Gr) : (idx G).Nodup := by
  unfold idx
  rw [List.nodup_iff_pairwise_ne, List.pairwise_map]
  refine List.Pairwise.imp ?_ (List.nodup_iff_pairwise_ne.1 List.nodup_range)
  intro a b h e
  exact h (Int.ofNat.inj e)
theorem those_nodup (G : Gr) (f : Int → Bool) : (those G f).Nodup := (idx_nodup G).filter _
theorem those_len (G : Gr) (f : Int → Bool) : (those G f).length ≤ G.length := by
  unfold those
  refine Nat.le_trans (List.length_filter_le _ _) ?_
  simp [idx]

/-! ### what a call does -/
theorem ok_new : Ok newG := by
  have hl : ∀ x, lv newG x = true → x = 0 := fun x h => by
    have := lv_lo h
    simp [newG] at this
    omega
  refine ⟨by decide, by decide, by decide, by decide, fun x h h0 => absurd (hl x h) h0, fun x h => ?_⟩
  rw [hl x h]
  decide

theorem lv_snoc {G : Gr} {p x : Int} (h : x < G.length) : lv (G ++ [(p, true)]) x = lv G x := by
  by_cases h0 : x < 0
  · rw [lv_neg h0, lv_neg h0]
  · unfold lv
    rw [List.getElem?_append_left (by omega)]
theorem pr_snoc {G : Gr} {p x : Int} (h : x < G.length) (h0 : 0 < G.length) : pr (G ++ [(p, true)]) x = pr G x := by
  unfold pr
  rw [List.getElem?_append_left (by omega)]
theorem lv_last {G : Gr} {p : Int} : lv (G ++ [(p, true)]) (G.length : Int) = true := by simp [lv]
theorem pr_last {G : Gr} {p : Int} : pr (G ++ [(p, true)]) (G.length : Int) = p := by simp [pr]
theorem chF_snoc {G : Gr} (hG : Ok G) (p : Int) : ∀ (k : Nat) (x : Int), x < G.length → chF (G ++ [(p, true)]) k x = chF G k x := by
  intro k
  induction k with
  | zero => intro x _; rfl
  | succ k ih =>
    intro x hx
    unfold chF
    rw [lv_snoc hx, pr_snoc hx hG.ne]
    cases hl : lv G x with
    | false => rfl
    | true =>
      simp only [if_true]
      rw [ih]
      by_cases h0 : x = 0
      · subst h0; rw [hG.root]; omega
      · have := hG.up x hl h0; omega
theorem chain_snoc {G : Gr} (hG : Ok G) {p x : Int} (h : x < G.length) : chain (G ++ [(p, true)]) x = chain G x := chF_snoc hG p _ x h
theorem ok_snoc {G : Gr} (hG : Ok G) {p : Int} (hp : lv G p = true) (hd : dep G p < 7) (hl : G.length < 64) : Ok (G ++ [(p, true)]) := by
  have hne : (0 : Int) < G.length := by have := hG.ne; omega
  have hpl := lv_lo hp
  have hx : ∀ x, lv (G ++ [(p, true)]) x = true → x < G.length ∨ x = G.length := fun x h => by
    have := lv_lo h
    simp at this
    omega
  refine ⟨by simp, by simp; omega, by rw [lv_snoc hne]; exact hG.live, by rw [pr_snoc hne hG.ne]; exact hG.root, fun x h h0 => ?_, fun x h => ?_⟩
  · rcases hx x h with h1 | rfl
    · rw [lv_snoc h1] at h
      have := hG.up x h h0
      rw [pr_snoc h1 hG.ne, lv_snoc (by omega)]
      exact this
    · rw [pr_last, lv_snoc (by omega)]
      exact ⟨hpl.1, by omega, hp⟩
  · rcases hx x h with h1 | rfl
    · rw [lv_snoc h1] at h
      rw [chain_snoc hG h1]
      exact hG.deep x h
    · unfold chain chF
      simp only [lv_last, pr_last, if_true]
      rw [chF_snoc hG p _ p (by omega), chF_stable hG _ _ (by omega)]
      unfold dep at hd
      simp
      omega
theorem ok_add {G : Gr} (hG : Ok G) (p : Int) : Ok (addG G p) := by
  unfold addG
  split
  · rename_i h
    simp only [Bool.and_eq_true, decide_eq_true_eq] at h
    exact ok_snoc hG h.1.1 h.1.2 h.2
  · exact hG

theorem lv_set {G : Gr} {g x : Int} (hg : lv G g = true) : lv (G.set g.toNat (0, false)) x = (lv G x && decide (x ≠ g)) := by
  have hgl := lv_lo hg
  by_cases h0 : x < 0
  · rw [lv_neg h0, lv_neg h0]; rfl
  · by_cases h : x = g
    · subst h
      have : x.toNat < G.length := by omega
      simp [lv, this]
    · have : g.toNat ≠ x.toNat := by omega
      simp [lv, this, h]
theorem pr_set {G : Gr} {g x : Int} (hg : 0 ≤ g) (h0 : 0 ≤ x) (h : x ≠ g) : pr (G.set g.toNat (0, false)) x = pr G x := by
  have : g.toNat ≠ x.toNat := by omega
  simp [pr, this]
theorem chF_set {G : Gr} (hG : Ok G) {g : Int} (hg : lv G g = true) (hk : kids G g = []) : ∀ (k : Nat) (x : Int), x ≠ g → chF (G.set g.toNat (0, false)) k x = chF G k x := by
  intro k
  induction k with
  | zero => intro x _; rfl
  | succ k ih =>
    intro x hx
    have hgl := lv_lo hg
    unfold chF
    rw [lv_set hg]
    cases hl : lv G x with
    | false => rfl
    | true =>
      have hxl := lv_lo hl
      rw [pr_set hgl.1 hxl.1 hx]
      simp only [Bool.true_and, hx, ne_eq, not_false_eq_true, decide_true, if_true]
      rw [ih]
      intro e
      by_cases hx0 : x = 0
      · subst hx0
        rw [hG.root] at e
        omega
      · have : x ∈ kids G g := mem_kids.2 ⟨hl, hx0, e⟩
        rw [hk] at this
        cases this
theorem ok_set {G : Gr} (hG : Ok G) {g : Int} (hg : lv G g = true) (h0 : g ≠ 0) (hk : kids G g = []) : Ok (G.set g.toNat (0, false)) := by
  have hgl := lv_lo hg
  have hx : ∀ x, lv (G.set g.toNat (0, false)) x = true → lv G x = true ∧ x ≠ g := fun x h => by
    rw [lv_set hg] at h
    simpa using h
  refine ⟨by simpa using hG.ne, by simpa using hG.le, by rw [lv_set hg, hG.live]; simp; omega, by rw [pr_set hgl.1 (by omega) (by omega)]; exact hG.root, fun x h hx0 => ?_, fun x h => ?_⟩
  · obtain ⟨h1, h2⟩ := hx x h
    have h3 := hG.up x h1 hx0
    rw [pr_set hgl.1 (lv_lo h1).1 h2, lv_set hg]
    refine ⟨h3.1, h3.2.1, ?_⟩
    rw [h3.2.2]
    simp
    intro e
    have : x ∈ kids G g := mem_kids.2 ⟨h1, hx0, e⟩
    rw [hk] at this
    cases this
  · obtain ⟨h1, h2⟩ := hx x h
    unfold chain
    rw [chF_set hG hg hk _ x h2]
    exact hG.deep x h1
theorem ok_rem {G : Gr} (hG : Ok G) (g : Int) : Ok (remG G g) := by
  unfold remG
  split
  · rename_i h
    simp only [Bool.and_eq_true, decide_eq_true_eq, List.isEmpty_iff] at h
    exact ok_set hG h.1.2 h.1.1 h.2
  · exact hG
end Go.Proofs.Ytbceadnhfihlfaa
