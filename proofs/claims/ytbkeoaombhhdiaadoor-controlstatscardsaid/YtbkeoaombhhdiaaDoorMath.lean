/-
  Numbers as digits, lines of a stat, and what is read out of them again; as lists of bytes. No program is named here.
-/
namespace Go.Proofs.YtbkeoaombhhdiaaDoor

abbrev Bs := List UInt8
/-- The digit of a number below ten. -/
def dgt (n : Nat) : UInt8 := UInt8.ofNat (48 + n % 10)
theorem dgt_nat (n : Nat) : (dgt n).toNat = 48 + n % 10 := by
  unfold dgt
  simp only [UInt8.toNat_ofNat']
  have := Nat.mod_lt n (show 0 < 10 by decide)
  omega
def dgN : Nat → Nat → Bs
  | 0, _ => []
  | f + 1, n => if n < 10 then [dgt n] else dgN f (n / 10) ++ [dgt (n % 10)]
/-- The digits of a number. -/
def dg (n : Nat) : Bs := dgN (n + 1) n
theorem dgN_more : ∀ (f g n : Nat), n < f → n < g → dgN f n = dgN g n := by
  intro f
  induction f with
  | zero => intro g n h; omega
  | succ f ih =>
    intro g n h1 h2
    obtain ⟨g, rfl⟩ : ∃ k, g = k + 1 := ⟨g - 1, by omega⟩
    simp only [dgN]
    by_cases h : n < 10
    · rw [if_pos h, if_pos h]
    · rw [if_neg h, if_neg h, ih g (n / 10) (by omega) (by omega)]
theorem dg_small {n : Nat} (h : n < 10) : dg n = [dgt n] := by simp [dg, dgN, h]
theorem dg_step {n : Nat} (h : ¬ n < 10) : dg n = dg (n / 10) ++ [dgt (n % 10)] := by
  unfold dg
  rw [dgN, if_neg h, dgN_more n (n / 10 + 1) (n / 10) (by omega) (by omega)]
theorem dg_ind {P : Nat → Prop} (h0 : ∀ n, n < 10 → P n) (h1 : ∀ n, ¬ n < 10 → P (n / 10) → P n) (n : Nat) : P n := by
  induction n using Nat.strongRecOn with
  | ind n ih =>
    by_cases h : n < 10
    · exact h0 n h
    · exact h1 n h (ih (n / 10) (by omega))
def isD (c : UInt8) : Bool := decide (48 ≤ c.toNat) && decide (c.toNat ≤ 57)
theorem dgt_isD (n : Nat) : isD (dgt n) = true := by
  unfold isD
  rw [dgt_nat]
  have := Nat.mod_lt n (show 0 < 10 by decide)
  simp
  omega
theorem dg_ne (n : Nat) : dg n ≠ [] := by
  by_cases h : n < 10
  · rw [dg_small h]; simp
  · rw [dg_step h]; simp
theorem dg_isD (n : Nat) : ∀ c ∈ dg n, isD c = true := by
  refine dg_ind (P := fun n => ∀ c ∈ dg n, isD c = true) (fun n h c hc => ?_) (fun n h ih c hc => ?_) n
  · rw [dg_small h] at hc
    rw [List.mem_singleton.1 hc]
    exact dgt_isD n
  · rw [dg_step h] at hc
    rcases List.mem_append.1 hc with hc | hc
    · exact ih c hc
    · rw [List.mem_singleton.1 hc]
      exact dgt_isD _
/-- What digits come to. -/
def val (s : Bs) : Nat := s.foldl (fun n c => n * 10 + (c.toNat - 48)) 0
theorem val_snoc (s : Bs) (c : UInt8) : val (s ++ [c]) = val s * 10 + (c.toNat - 48) := by simp [val]
theorem val_dg (n : Nat) : val (dg n) = n := by
  refine dg_ind (P := fun n => val (dg n) = n) (fun n h => ?_) (fun n h ih => ?_) n
  · rw [dg_small h]
    show 0 * 10 + ((dgt n).toNat - 48) = n
    rw [dgt_nat]
    omega
  · rw [dg_step h, val_snoc, ih, dgt_nat]
    omega
theorem dg_inj {m n : Nat} (h : dg m = dg n) : m = n := by rw [← val_dg m, h, val_dg]
/-- Are they a number's digits? -/
def isDg (s : Bs) : Prop := s ≠ [] ∧ (∀ c ∈ s, isD c = true) ∧ (s.head? = some 48 → s.length = 1)
theorem head_snoc {s : Bs} (h : s ≠ []) (t : Bs) : (s ++ t).head? = s.head? := by
  cases s with
  | nil => exact absurd rfl h
  | cons a s => rfl
theorem dg_head (n : Nat) : (dg n).head? = some 48 → n = 0 := by
  refine dg_ind (P := fun n => (dg n).head? = some 48 → n = 0) (fun n h e => ?_) (fun n h ih e => ?_) n
  · rw [dg_small h] at e
    have e2 := Option.some.inj e
    have := congrArg UInt8.toNat e2
    rw [dgt_nat] at this
    have h48 : (48 : UInt8).toNat = 48 := rfl
    omega
  · rw [dg_step h, head_snoc (dg_ne _)] at e
    have := ih e
    omega
theorem dg_isDg (n : Nat) : isDg (dg n) := ⟨dg_ne n, dg_isD n, fun e => by rw [dg_head n e]; rfl⟩
theorem isD_dgt {c : UInt8} (h : isD c = true) : dgt (c.toNat - 48) = c := by
  simp only [isD, Bool.and_eq_true, decide_eq_true_eq] at h
  apply UInt8.toNat_inj.1
  rw [dgt_nat]
  omega
theorem val_zero {s : Bs} (h : isDg s) (h0 : val s = 0) : s = [48] := by
  obtain ⟨h1, h2, h3⟩ := h
  have grow : ∀ (s : Bs) (n : Nat), n ≤ s.foldl (fun n c => n * 10 + (c.toNat - 48)) n := by
    intro s
    induction s with
    | nil => intro n; exact Nat.le_refl _
    | cons a s ih => intro n; exact Nat.le_trans (show n ≤ n * 10 + (a.toNat - 48) by omega) (ih (n * 10 + (a.toNat - 48)))
  cases s with
  | nil => exact absurd rfl h1
  | cons a s =>
    have ha := h2 a (by simp)
    simp only [isD, Bool.and_eq_true, decide_eq_true_eq] at ha
    have := grow s (0 * 10 + (a.toNat - 48))
    have e : val (a :: s) = s.foldl (fun n c => n * 10 + (c.toNat - 48)) (0 * 10 + (a.toNat - 48)) := rfl
    rw [← e, h0] at this
    have ha48 : a = 48 := by
      apply UInt8.toNat_inj.1
      show a.toNat = 48
      omega
    subst ha48
    have := h3 rfl
    simp at this
    rw [this]
theorem dg_val {s : Bs} (h : isDg s) : dg (val s) = s := by
  suffices hk : ∀ k (s : Bs), s.length = k → isDg s → dg (val s) = s from hk _ s rfl h
  intro k
  induction k with
  | zero => intro s hs h; exact absurd (List.length_eq_zero_iff.1 hs) h.1
  | succ k ih =>
    intro s hs h
    obtain ⟨t, c, rfl⟩ : ∃ t c, s = t ++ [c] := by
      rw [← List.dropLast_concat_getLast h.1]
      exact ⟨_, _, rfl⟩
    have hc := h.2.1 c (by simp)
    have hc2 := hc
    simp only [isD, Bool.and_eq_true, decide_eq_true_eq] at hc2
    by_cases ht : t = []
    · subst ht
      show dg (0 * 10 + (c.toNat - 48)) = [c]
      rw [dg_small (by omega)]
      have : 0 * 10 + (c.toNat - 48) = c.toNat - 48 := by omega
      rw [this, isD_dgt hc]
    · have hd : isDg t := ⟨ht, fun x hx => h.2.1 x (by simp [hx]), fun e => by
        have h8 : (t ++ [c]).length = 1 := h.2.2 (by rw [head_snoc ht]; exact e)
        have h7 : t.length ≠ 0 := fun e => ht (List.length_eq_zero_iff.1 e)
        rw [List.length_append] at h8
        have h6 : [c].length = 1 := rfl
        omega⟩
      have hne : val t ≠ 0 := fun e => by
        have := val_zero hd e
        subst this
        have h9 : (([48] : Bs) ++ [c]).length = 1 := h.2.2 rfl
        simp at h9
      have e : val (t ++ [c]) = val t * 10 + (c.toNat - 48) := val_snoc t c
      rw [e, dg_step (by omega)]
      have e1 : (val t * 10 + (c.toNat - 48)) / 10 = val t := by omega
      have e2 : (val t * 10 + (c.toNat - 48)) % 10 = c.toNat - 48 := by omega
      rw [e1, e2, ih t (by simpa using hs) hd, isD_dgt hc]
theorem dg_len_le (k : Nat) : ∀ n, n < 10 ^ (k + 1) → (dg n).length ≤ k + 1 := by
  induction k with
  | zero => intro n h; rw [dg_small (by simpa using h)]; simp
  | succ k ih =>
    intro n h
    by_cases hn : n < 10
    · rw [dg_small hn]; simp
    · rw [dg_step hn]
      have := ih (n / 10) (by rw [Nat.pow_succ] at h; omega)
      simp only [List.length_append, List.length_singleton]
      omega
theorem val_lt {s : Bs} (h : ∀ c ∈ s, isD c = true) : val s < 10 ^ s.length := by
  suffices hk : ∀ k (s : Bs), s.length = k → (∀ c ∈ s, isD c = true) → val s < 10 ^ k from hk _ s rfl h
  intro k
  induction k with
  | zero => intro s hs _; rw [List.length_eq_zero_iff.1 hs]; decide
  | succ k ih =>
    intro s hs h
    have hne : s ≠ [] := fun e => by rw [e] at hs; cases hs
    obtain ⟨t, c, rfl⟩ : ∃ t c, s = t ++ [c] := by
      rw [← List.dropLast_concat_getLast hne]
      exact ⟨_, _, rfl⟩
    have hc := h c (by simp)
    simp only [isD, Bool.and_eq_true, decide_eq_true_eq] at hc
    have := ih t (by simpa using hs) (fun x hx => h x (by simp [hx]))
    rw [val_snoc, Nat.pow_succ]
    omega

/-! ### numbers below nought, too -/
def dgI (n : Int) : Bs := if n < 0 then 45 :: dg (-n).toNat else dg n.toNat
theorem dg_no_minus (n : Nat) : (45 : UInt8) ∉ dg n := fun h => by
  have := dg_isD n _ h
  simp [isD] at this
theorem dgI_inj {m n : Int} (h : dgI m = dgI n) : m = n := by
  unfold dgI at h
  by_cases hm : m < 0 <;> by_cases hn : n < 0
  · rw [if_pos hm, if_pos hn] at h
    have := dg_inj (List.cons.inj h).2
    omega
  · rw [if_pos hm, if_neg hn] at h
    exact absurd (by rw [← h]; simp) (dg_no_minus n.toNat)
  · rw [if_neg hm, if_pos hn] at h
    exact absurd (by rw [h]; simp) (dg_no_minus m.toNat)
  · rw [if_neg hm, if_neg hn] at h
    have := dg_inj h
    omega
/-- No blank, no line's end. -/
def plain (s : Bs) : Prop := (32 : UInt8) ∉ s ∧ (10 : UInt8) ∉ s
theorem dg_plain (n : Nat) : plain (dg n) := ⟨fun h => by have := dg_isD n _ h; simp [isD] at this, fun h => by have := dg_isD n _ h; simp [isD] at this⟩
theorem dgI_plain (n : Int) : plain (dgI n) := by
  unfold dgI
  split
  · obtain ⟨h1, h2⟩ := dg_plain (-n).toNat
    exact ⟨by simp [h1], by simp [h2]⟩
  · exact dg_plain _

/-! ### lines -/
def line (nm : Bs) (v : Int) : Bs := nm ++ 32 :: (dgI v ++ [10])
/-- A stat's text. -/
def statT : List Bs → List Int → Bs
  | nm :: names, v :: vals => line nm v ++ statT names vals
  | _, _ => []
/-- What has been gone through: the piece at hand, the name at hand, the names and pieces that were. -/
structure St where
  ln : Bs
  nm : Bs
  names : List Bs
  vals : List Bs
def stp (s : St) (c : UInt8) : St :=
  if c = 32 then ⟨[], s.ln, s.names, s.vals⟩
  else if c = 10 then ⟨[], [], s.names ++ [s.nm], s.vals ++ [s.ln]⟩
  else ⟨s.ln ++ [c], s.nm, s.names, s.vals⟩
def prs (t : Bs) : St := t.foldl stp ⟨[], [], [], []⟩
theorem stp_plain : ∀ (t : Bs) (s : St), plain t → t.foldl stp s = ⟨s.ln ++ t, s.nm, s.names, s.vals⟩ := by
  intro t
  induction t with
  | nil => intro s _; simp
  | cons c t ih =>
    intro s h
    have h1 : ¬ c = 32 := fun e => h.1 (by simp [e])
    have h2 : ¬ c = 10 := fun e => h.2 (by simp [e])
    show t.foldl stp (stp s c) = _
    have e : stp s c = ⟨s.ln ++ [c], s.nm, s.names, s.vals⟩ := by simp [stp, h1, h2]
    rw [e, ih _ ⟨fun hc => h.1 (by simp [hc]), fun hc => h.2 (by simp [hc])⟩]
    simp
theorem stp_line {nm : Bs} (h : plain nm) (v : Int) (names vals : List Bs) : (line nm v).foldl stp ⟨[], [], names, vals⟩ = ⟨[], [], names ++ [nm], vals ++ [dgI v]⟩ := by
  unfold line
  rw [List.foldl_append, stp_plain _ _ h, List.foldl_cons]
  have e : stp ⟨[] ++ nm, [], names, vals⟩ 32 = ⟨[], nm, names, vals⟩ := by simp [stp]
  rw [e, List.foldl_append, stp_plain _ _ (dgI_plain v)]
  simp [stp]
theorem prs_stat : ∀ (names : List Bs) (vals : List Int), names.length = vals.length → (∀ x ∈ names, plain x) → ∀ (n0 v0 : List Bs),
    (statT names vals).foldl stp ⟨[], [], n0, v0⟩ = ⟨[], [], n0 ++ names, v0 ++ vals.map dgI⟩ := by
  intro names
  induction names with
  | nil =>
    intro vals hl _ n0 v0
    have : vals = [] := List.length_eq_zero_iff.1 hl.symm
    subst this
    simp [statT]
  | cons nm names ih =>
    intro vals hl hp n0 v0
    cases vals with
    | nil => cases hl
    | cons v vals =>
      show (line nm v ++ statT names vals).foldl stp _ = _
      rw [List.foldl_append, stp_line (hp nm (by simp)), ih vals (by simpa using hl) (fun x hx => hp x (by simp [hx]))]
      simp
/-- Each stat has one text. -/
theorem stat_inj {n1 n2 : List Bs} {v1 v2 : List Int} (h1 : n1.length = v1.length) (h2 : n2.length = v2.length) (p1 : ∀ x ∈ n1, plain x) (p2 : ∀ x ∈ n2, plain x) (h : statT n1 v1 = statT n2 v2) : n1 = n2 ∧ v1 = v2 := by
  have e1 := prs_stat n1 v1 h1 p1 [] []
  have e2 := prs_stat n2 v2 h2 p2 [] []
  rw [h, e2] at e1
  injection e1 with _ _ ha hb
  simp only [List.nil_append] at ha hb
  refine ⟨ha.symm, ?_⟩
  have inj : ∀ (a b : List Int), a.map dgI = b.map dgI → a = b := by
    intro a
    induction a with
    | nil => intro b h; cases b with
      | nil => rfl
      | cons x b => cases h
    | cons y a ih => intro b h; cases b with
      | nil => cases h
      | cons x b =>
        simp only [List.map_cons, List.cons.injEq] at h
        rw [dgI_inj h.1, ih b h.2]
  exact (inj v2 v1 hb).symm
/-- One line more. -/
theorem stat_snoc : ∀ (names : List Bs) (vals : List Int), names.length = vals.length → ∀ nm v, statT (names ++ [nm]) (vals ++ [v]) = statT names vals ++ line nm v := by
  intro names
  induction names with
  | nil =>
    intro vals hl nm v
    have : vals = [] := List.length_eq_zero_iff.1 hl.symm
    subst this
    simp [statT]
  | cons x names ih =>
    intro vals hl nm v
    cases vals with
    | nil => cases hl
    | cons y vals =>
      show line x y ++ statT (names ++ [nm]) (vals ++ [v]) = line x y ++ statT names vals ++ line nm v
      rw [ih vals (by simpa using hl), List.append_assoc]

/-! ### names -/
def wch (c : UInt8) : Bool := (decide (97 ≤ c.toNat) && decide (c.toNat ≤ 122)) || ((decide (48 ≤ c.toNat) && decide (c.toNat ≤ 57)) || decide (c.toNat = 95))
def isW (s : Bs) : Bool := s.all wch && (decide (1 ≤ s.length) && decide (s.length ≤ 40))
theorem isW_plain {s : Bs} (h : isW s = true) : plain s := by
  simp only [isW, Bool.and_eq_true] at h
  have hall := List.all_eq_true.1 h.1
  exact ⟨fun hm => by have := hall _ hm; simp [wch] at this, fun hm => by have := hall _ hm; simp [wch] at this⟩
theorem isW_join {a b : Bs} (ha : isW a = true) (hb : isW b = true) : isW (a ++ b) = decide (a.length + b.length ≤ 40) := by
  simp only [isW, Bool.and_eq_true, decide_eq_true_eq] at ha hb
  have h1 : (a ++ b).all wch = true := by rw [List.all_append, ha.1, hb.1]; rfl
  unfold isW
  rw [h1, List.length_append]
  have : 1 ≤ a.length + b.length := by omega
  simp [this]
theorem isW_other {a b : Bs} {c : UInt8} (hc : wch c = false) : isW (a ++ [c] ++ b) = false := by
  unfold isW
  rw [List.all_append, List.all_append]
  simp [hc]
theorem isW_nil : isW [] = false := rfl
end Go.Proofs.YtbkeoaombhhdiaaDoor
