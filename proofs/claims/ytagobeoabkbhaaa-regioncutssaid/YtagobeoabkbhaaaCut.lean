/-
  Regions cut, counted, and whose a page is. No program is named here.
-/
import Derived.Test.YtagobeoabkbhaaaMath
namespace Go.Proofs.Ytagobeoabkbhaaa
open Go.RowKit

def kF (x : Rg) : Int := if x.k = 2 then x.fi else -1
def kI (x : Rg) (p : Int) : Int := if x.k = 2 then wrap64 (wrap64 (x.ix + p) - x.f) else p
def part (x : Rg) (a b : Int) : Rg := ⟨a, b, x.k, x.fi, if x.k = 2 then kI x a else x.ix, x.wr⟩
theorem kI_in {x : Rg} (h : Vd x) (hk : x.k = 2) {p : Int} (h1 : x.f ≤ p) (h2 : p ≤ x.t) : kI x p = x.ix + p - x.f := by
  unfold kI
  rw [if_pos hk]
  obtain ⟨a1, a2, a3, a4⟩ := h
  have : 0 ≤ x.ix ∧ x.ix ≤ 2097152 := by omega
  unfold wrap64
  omega
theorem part_ix {x : Rg} (h : Vd x) {a b : Int} (h1 : x.f ≤ a) (h2 : a ≤ x.t) : (part x a b).ix = if x.k = 2 then x.ix + a - x.f else x.ix := by
  unfold part
  by_cases hk : x.k = 2
  · simp only [if_pos hk]
    exact kI_in h hk h1 h2
  · simp only [if_neg hk]
theorem part_self {x : Rg} (h : Vd x) : part x x.f x.t = x := by
  have h1 := part_ix (b := x.t) h (Int.le_refl x.f) (Int.le_of_lt h.2.1)
  have h2 : (part x x.f x.t).ix = x.ix := by
    rw [h1]
    by_cases hk : x.k = 2
    · rw [if_pos hk]; omega
    · rw [if_neg hk]
  cases x
  simp only [part] at h2 ⊢
  rw [h2]
theorem part_vd {x : Rg} (h : Vd x) {a b : Int} (h1 : x.f ≤ a) (h2 : a < b) (h3 : b ≤ x.t) : Vd (part x a b) := by
  have e := part_ix (b := b) h h1 (by omega)
  obtain ⟨a1, a2, a3, a4⟩ := h
  refine ⟨?_, h2, ?_, ?_⟩
  · show 0 ≤ a; omega
  · show b ≤ 65536; omega
  · rcases a4 with ⟨k1, k2, k3⟩ | ⟨k1, k2, k3, k4, k5⟩
    · left
      rw [if_neg (by omega)] at e
      exact ⟨k1, k2, e.trans k3⟩
    · right
      rw [if_pos k1] at e
      refine ⟨k1, k2, k3, ?_, ?_⟩
      · rw [e]; omega
      · rw [e]
        show x.ix + a - x.f + b - a ≤ 2097152
        omega
theorem part_part {x : Rg} (h : Vd x) {a b c d : Int} (h1 : x.f ≤ a) (h2 : a < b) (h3 : b ≤ x.t) (h4 : a ≤ c) (h5 : c ≤ b) : part (part x a b) c d = part x c d := by
  have e1 := part_ix (b := d) (part_vd h h1 h2 h3) (show (part x a b).f ≤ c from h4) (show c ≤ (part x a b).t from h5)
  have e2 := part_ix (b := b) h h1 (by omega)
  have e3 := part_ix (b := d) h (a := c) (by omega) (by omega)
  have e : (part (part x a b) c d).ix = (part x c d).ix := by
    rw [e1, e3]
    have hk : (part x a b).k = x.k := rfl
    have hf : (part x a b).f = a := rfl
    rw [hk, hf, e2]
    by_cases h0 : x.k = 2
    · simp only [if_pos h0]; omega
    · simp only [if_neg h0]
  have g1 : part (part x a b) c d = ⟨c, d, x.k, x.fi, (part (part x a b) c d).ix, x.wr⟩ := rfl
  have g2 : part x c d = ⟨c, d, x.k, x.fi, (part x c d).ix, x.wr⟩ := rfl
  rw [g1, g2, e]
theorem part_key {x : Rg} (h : Vd x) {a b p : Int} (h1 : x.f ≤ a) (h2 : a < b) (h3 : b ≤ x.t) (h4 : a ≤ p) (h5 : p < b) : kF (part x a b) = kF x ∧ kI (part x a b) p = kI x p := by
  refine ⟨rfl, ?_⟩
  by_cases hk : x.k = 2
  · rw [kI_in (part_vd h h1 h2 h3) hk h4 (Int.le_of_lt h5), kI_in h hk (by omega) (by omega), part_ix h h1 (by omega), if_pos hk]
    show x.ix + a - x.f + p - a = _
    omega
  · have hk2 : ¬ (part x a b).k = 2 := hk
    unfold kI
    rw [if_neg hk, if_neg hk2]

/-- What is left of a region. -/
def piece (a b : Int) (x : Rg) : List Rg := if b ≤ a then [x] else (if x.f < a then [part x x.f (min x.t a)] else []) ++ (if b < x.t then [part x (max x.f b) x.t] else [])
def cutL (L : List Rg) (a b : Int) : List Rg := L.flatMap (piece a b)
def cutR (L : List Rg) (a b : Int) : List Rg := if rt 0 L = true then cutL L a b else []
theorem cutR_right {L : List Rg} (h : RL L) (a b : Int) : cutR L a b = cutL L a b := by unfold cutR; rw [if_pos ((rt_iff L).2 h)]
theorem piece_le (a b : Int) (x : Rg) : (piece a b x).length ≤ 2 := by
  unfold piece
  split
  · simp
  · split <;> split <;> simp
theorem cutL_length (L : List Rg) (a b : Int) : (cutL L a b).length ≤ 2 * L.length := by
  unfold cutL
  induction L with
  | nil => simp
  | cons x L ih =>
    have := piece_le a b x
    simp only [List.flatMap_cons, List.length_append, List.length_cons]
    omega
theorem piece_back (a b : Int) (x : Rg) (h : b ≤ a) : piece a b x = [x] := by unfold piece; rw [if_pos h]
theorem cutL_back (L : List Rg) (a b : Int) (h : b ≤ a) : cutL L a b = L := by
  unfold cutL
  induction L with
  | nil => rfl
  | cons x L ih => rw [List.flatMap_cons, ih, piece_back a b x h]; rfl
theorem piece_off {a b : Int} {x : Rg} (hv : Vd x) (h : x.t ≤ a ∨ b ≤ x.f) : piece a b x = [x] := by
  unfold piece
  have := hv.2.1
  by_cases hab : b ≤ a
  · rw [if_pos hab]
  · rw [if_neg hab]
    rcases h with h | h
    · rw [if_pos (by omega), if_neg (by omega), Int.min_eq_left h, part_self hv]; rfl
    · rw [if_neg (by omega), if_pos (by omega), Int.max_eq_left h, part_self hv]; rfl
/-- As the document cuts. -/
theorem piece_in {a b : Int} {x : Rg} (h1 : ¬ b ≤ a) (h2 : ¬ x.t ≤ a) (h3 : ¬ b ≤ x.f) : piece a b x = (if x.f < a then [part x x.f a] else []) ++ (if b < x.t then [part x b x.t] else []) := by
  unfold piece
  rw [if_neg h1, Int.min_eq_right (by omega), Int.max_eq_right (by omega)]
theorem piece_mem {a b : Int} {x y : Rg} (hv : Vd x) (hy : y ∈ piece a b x) : Vd y ∧ x.f ≤ y.f ∧ y.t ≤ x.t ∧ y.k = x.k ∧ y.wr = x.wr ∧ (∀ p, y.f ≤ p → p < y.t → kF y = kF x ∧ kI y p = kI x p) ∧ (a < b → y.t ≤ a ∨ b ≤ y.f) := by
  unfold piece at hy
  have hlt := hv.2.1
  by_cases hab : b ≤ a
  · rw [if_pos hab] at hy
    simp at hy
    subst hy
    exact ⟨hv, Int.le_refl _, Int.le_refl _, rfl, rfl, fun _ _ _ => ⟨rfl, rfl⟩, fun h => by omega⟩
  · rw [if_neg hab, List.mem_append] at hy
    rcases hy with hy | hy
    · by_cases h1 : x.f < a
      · rw [if_pos h1] at hy
        simp at hy
        subst hy
        have hm : x.f < min x.t a := by omega
        have hm2 : min x.t a ≤ x.t := by omega
        exact ⟨part_vd hv (Int.le_refl _) hm hm2, Int.le_refl _, hm2, rfl, rfl, fun p q1 q2 => part_key hv (Int.le_refl _) hm hm2 q1 q2, fun _ => Or.inl (show min x.t a ≤ a by omega)⟩
      · rw [if_neg h1] at hy
        cases hy
    · by_cases h1 : b < x.t
      · rw [if_pos h1] at hy
        simp at hy
        subst hy
        have hm : max x.f b < x.t := by omega
        have hm2 : x.f ≤ max x.f b := by omega
        exact ⟨part_vd hv hm2 hm (Int.le_refl _), hm2, Int.le_refl _, rfl, rfl, fun p q1 q2 => part_key hv hm2 hm (Int.le_refl _) q1 q2, fun _ => Or.inr (show b ≤ max x.f b by omega)⟩
      · rw [if_neg h1] at hy
        cases hy
theorem piece_has {a b : Int} {x : Rg} {p : Int} (h1 : x.f ≤ p) (h2 : p < x.t) (hp : p < a ∨ b ≤ p) : ∃ y ∈ piece a b x, y.f ≤ p ∧ p < y.t := by
  unfold piece
  by_cases hab : b ≤ a
  · rw [if_pos hab]
    exact ⟨x, by simp, h1, h2⟩
  · rw [if_neg hab]
    rcases hp with hp | hp
    · rw [if_pos (show x.f < a by omega)]
      exact ⟨_, List.mem_append_left _ List.mem_cons_self, h1, show p < min x.t a by omega⟩
    · rw [if_pos (show b < x.t by omega)]
      exact ⟨_, List.mem_append_right _ List.mem_cons_self, show max x.f b ≤ p by omega, h2⟩
theorem piece_pair {a b : Int} {x : Rg} : (piece a b x).Pairwise fun y z => y.t ≤ z.f := by
  unfold piece
  split
  · simp
  · split <;> split <;> simp [part]
    omega
theorem RL.cut {L : List Rg} (h : RL L) (a b : Int) : RL (cutL L a b) := by
  refine ⟨fun y hy => ?_, ?_⟩
  · obtain ⟨x, hx, hyx⟩ := List.mem_flatMap.1 hy
    exact (piece_mem (h.1 x hx) hyx).1
  · unfold cutL
    rw [List.pairwise_flatMap]
    refine ⟨fun x _ => piece_pair, ?_⟩
    refine h.2.imp_of_mem ?_
    intro x y hx hy hxy u hu v hv
    have h1 := piece_mem (h.1 x hx) hu
    have h2 := piece_mem (h.1 y hy) hv
    omega
/-- What is cut has none of the pages. -/
theorem cut_in {L : List Rg} (h : RL L) {a b p : Int} (h1 : a ≤ p) (h2 : p < b) : fd (cutL L a b) p = none := by
  apply fd_none
  intro y hy hp
  obtain ⟨x, hx, hyx⟩ := List.mem_flatMap.1 hy
  have := (piece_mem (h.1 x hx) hyx).2.2.2.2.2.2 (by omega)
  omega
theorem cut_none {L : List Rg} (h : RL L) {a b p : Int} (h1 : fd L p = none) : fd (cutL L a b) p = none := by
  apply fd_none
  intro y hy hp
  obtain ⟨x, hx, hyx⟩ := List.mem_flatMap.1 hy
  have := piece_mem (h.1 x hx) hyx
  exact fd_no h1 x hx ⟨by omega, by omega⟩
/-- All others, as they were. -/
theorem cut_out {L : List Rg} (h : RL L) {a b p : Int} {x : Rg} (h1 : fd L p = some x) (hp : p < a ∨ b ≤ p) : ∃ y, fd (cutL L a b) p = some y ∧ y.k = x.k ∧ y.wr = x.wr ∧ kF y = kF x ∧ kI y p = kI x p := by
  obtain ⟨hx, hf, ht⟩ := fd_some h1
  obtain ⟨y, hy, g1, g2⟩ := piece_has hf ht hp
  have := piece_mem (h.1 x hx) hy
  exact ⟨y, fd_mem (h.cut a b) (List.mem_flatMap.2 ⟨x, hx, hy⟩) ⟨g1, g2⟩, this.2.2.2.1, this.2.2.2.2.1, (this.2.2.2.2.2.1 p g1 g2).1, (this.2.2.2.2.2.1 p g1 g2).2⟩
/-- Cut twice is cut once. -/
theorem cut_twice {L : List Rg} (h : RL L) (a b : Int) : cutL (cutL L a b) a b = cutL L a b := by
  by_cases hab : b ≤ a
  · rw [cutL_back _ a b hab]
  · have : ∀ M : List Rg, (∀ y ∈ M, Vd y ∧ (y.t ≤ a ∨ b ≤ y.f)) → cutL M a b = M := by
      intro M
      induction M with
      | nil => intro _; rfl
      | cons y M ih =>
        intro hM
        have hy := hM y List.mem_cons_self
        unfold cutL at ih ⊢
        rw [List.flatMap_cons, ih (fun z hz => hM z (List.mem_cons_of_mem _ hz)), piece_off hy.1 hy.2]
        rfl
    apply this
    intro y hy
    obtain ⟨x, hx, hyx⟩ := List.mem_flatMap.1 hy
    have := piece_mem (h.1 x hx) hyx
    exact ⟨this.1, this.2.2.2.2.2.2 (by omega)⟩
theorem piece_two {a c b : Int} {x : Rg} (hv : Vd x) (h1 : a ≤ c) (h2 : c ≤ b) : (piece a c x).flatMap (piece c b) = piece a b x := by
  have hlt := hv.2.1
  rcases Int.lt_or_eq_of_le h1 with h1 | h1
  · rcases Int.lt_or_eq_of_le h2 with h2 | h2
    · have e : piece a c x = (if x.f < a then [part x x.f (min x.t a)] else []) ++ (if c < x.t then [part x (max x.f c) x.t] else []) := by unfold piece; rw [if_neg (by omega)]
      have e2 : piece a b x = (if x.f < a then [part x x.f (min x.t a)] else []) ++ (if b < x.t then [part x (max x.f b) x.t] else []) := by unfold piece; rw [if_neg (by omega)]
      rw [e, e2, List.flatMap_append]
      congr 1
      · by_cases hf : x.f < a
        · rw [if_pos hf]
          have hm : x.f < min x.t a := by omega
          have hv1 := part_vd hv (Int.le_refl _) hm (by omega)
          show piece c b _ ++ [] = _
          rw [piece_off hv1 (Or.inl (show min x.t a ≤ c by omega))]
          rfl
        · rw [if_neg hf]; rfl
      · by_cases hc : c < x.t
        · rw [if_pos hc]
          have hm : max x.f c < x.t := by omega
          show piece c b _ ++ [] = _
          unfold piece
          rw [if_neg (by omega), if_neg (show ¬ (part x (max x.f c) x.t).f < c from by show ¬ max x.f c < c; omega)]
          show (if b < x.t then [part (part x (max x.f c) x.t) (max (max x.f c) b) x.t] else []) ++ [] = _
          by_cases hb : b < x.t
          · rw [if_pos hb, if_pos hb, part_part hv (by omega) hm (Int.le_refl _) (by omega) (by omega)]
            have : max (max x.f c) b = max x.f b := by omega
            rw [this]
            rfl
          · rw [if_neg hb, if_neg hb]; rfl
        · rw [if_neg hc, if_neg (by omega)]; rfl
    · subst h2
      generalize piece a c x = M
      induction M with
      | nil => rfl
      | cons y M ih => rw [List.flatMap_cons, ih, piece_back c c y (Int.le_refl _)]; rfl
  · subst h1
    rw [piece_back a a x (Int.le_refl _)]
    simp
/-- Cut in two pieces is cut at once. -/
theorem cut_cut {L : List Rg} (h : RL L) {a c b : Int} (h1 : a ≤ c) (h2 : c ≤ b) : cutL (cutL L a c) c b = cutL L a b := by
  have hv : ∀ x ∈ L, Vd x := h.1
  clear h
  unfold cutL
  induction L with
  | nil => rfl
  | cons x L ih =>
    rw [List.flatMap_cons, List.flatMap_append, ih (fun y hy => hv y (List.mem_cons_of_mem _ hy)), piece_two (hv x List.mem_cons_self) h1 h2, List.flatMap_cons]
/-- What was added is cut out again. -/
theorem cut_add {L : List Rg} (h : RL L) {x : Rg} (hx : Vd x) (hb : bz L x = false) : cutL (addL L x) x.f x.t = L := by
  have hM := h.add hx hb
  refine RL.ext (hM.cut _ _) h fun z => ?_
  have hp : ∀ y ∈ L, piece x.f x.t y = [y] := fun y hy => piece_off (h.1 y hy) (bz_no h hb y hy)
  have hpx : piece x.f x.t x = [] := by
    unfold piece
    rw [if_neg (by have := hx.2.1; omega), if_neg (by omega), if_neg (by omega)]
    rfl
  unfold cutL
  rw [List.mem_flatMap]
  constructor
  · rintro ⟨y, hy, hz⟩
    rcases (mem_addL L x y).1 hy with h1 | h1
    · rw [h1, hpx] at hz
      cases hz
    · rw [hp y h1] at hz
      simp at hz
      rw [hz]
      exact h1
  · intro hz
    exact ⟨z, (mem_addL L x z).2 (Or.inr hz), by rw [hp z hz]; simp⟩

/-! ### counted -/
def pgs (L : List Rg) : Int := (L.map fun x => x.t - x.f).sum
def pgR (L : List Rg) : Int := if rt 0 L = true then pgs L else 0
theorem pgs_cons (x : Rg) (L : List Rg) : pgs (x :: L) = x.t - x.f + pgs L := by simp [pgs]
theorem pgs_append (A B : List Rg) : pgs (A ++ B) = pgs A + pgs B := by
  induction A with
  | nil => simp [pgs]
  | cons x A ih => rw [List.cons_append, pgs_cons, pgs_cons, ih]; omega
theorem pgs_take (L : List Rg) (j : Nat) (hj : j < L.length) : pgs (L.take (j + 1)) = pgs (L.take j) + (L[j].t - L[j].f) := by
  rw [← List.take_append_getElem hj, pgs_append]
  simp [pgs]
theorem pgs_bound {L : List Rg} (h : RL L) (j : Nat) (hj : j ≤ L.length) : 0 ≤ pgs (L.take j) ∧ pgs (L.take j) ≤ 65536 * j := by
  induction j with
  | zero => simp [pgs]
  | succ j ih =>
    have := ih (by omega)
    have hv := h.vd (j := j) (by omega)
    rw [pgs_take L j (by omega)]
    obtain ⟨h1, h2, h3, -⟩ := hv
    omega
theorem pgs_all {L : List Rg} (h : RL L) : 0 ≤ pgs L ∧ pgs L ≤ 65536 * L.length := by
  have := pgs_bound h L.length (Nat.le_refl _)
  rwa [List.take_length] at this
theorem pgs_add (L : List Rg) (x : Rg) : pgs (addL L x) = pgs L + (x.t - x.f) := by
  unfold addL
  have := pgs_append (L.take (bh L x.f)) (L.drop (bh L x.f))
  rw [List.take_append_drop] at this
  rw [pgs_append, pgs_cons, this]
  omega

/-- In whatever order two are added. -/
theorem add_order {L : List Rg} {x y : Rg} (hL : L.length ≤ 60) (h1 : addE L x = 0) (h2 : addE L y = 0) : addE (addR L x) y = addE (addR L y) x ∧ addR (addR L x) y = addR (addR L y) x := by
  obtain ⟨hl, hx, hn, bx⟩ := addE_ok h1
  obtain ⟨-, hy, -, byy⟩ := addE_ok h2
  rw [(addR_ok hl hx hn bx).1, (addR_ok hl hy hn byy).1]
  have hA := hl.add hx bx
  have hB := hl.add hy byy
  have nA : (addL L x).length < 64 := by rw [addL_length]; omega
  have nB : (addL L y).length < 64 := by rw [addL_length]; omega
  have key : bz (addL L x) y = bz (addL L y) x := by
    have e1 := bz_iff (x := y) hA
    have e2 := bz_iff (x := x) hB
    have e3 : (∃ z ∈ addL L x, z.f < y.t ∧ y.f < z.t) ↔ (∃ z ∈ addL L y, z.f < x.t ∧ x.f < z.t) := by
      constructor
      · rintro ⟨z, hz, g1, g2⟩
        rcases (mem_addL L x z).1 hz with h | h
        · rw [h] at g1 g2
          exact ⟨y, (mem_addL L y y).2 (Or.inl rfl), g2, g1⟩
        · have := bz_no hl byy z h
          omega
      · rintro ⟨z, hz, g1, g2⟩
        rcases (mem_addL L y z).1 hz with h | h
        · rw [h] at g1 g2
          exact ⟨x, (mem_addL L x x).2 (Or.inl rfl), g2, g1⟩
        · have := bz_no hl bx z h
          omega
    cases hq : bz (addL L x) y <;> cases hr : bz (addL L y) x
    · rfl
    · rw [hq] at e1; rw [hr] at e2; exact absurd (e1.2 (e3.2 (e2.1 rfl))) (by decide)
    · rw [hq] at e1; rw [hr] at e2; exact absurd (e2.2 (e3.1 (e1.1 rfl))) (by decide)
    · rfl
  cases hq : bz (addL L x) y with
  | true =>
    rw [hq] at key
    have a1 := addR_busy hA hy nA hq
    have a2 := addR_busy hB hx nB key.symm
    exact ⟨a1.2.trans a2.2.symm, a1.1.trans a2.1.symm⟩
  | false =>
    rw [hq] at key
    have a1 := addR_ok hA hy nA hq
    have a2 := addR_ok hB hx nB key.symm
    refine ⟨a1.2.trans a2.2.symm, ?_⟩
    rw [a1.1, a2.1]
    refine RL.ext (hA.add hy hq) (hB.add hx key.symm) fun z => ?_
    rw [mem_addL, mem_addL, mem_addL, mem_addL]
    constructor
    · rintro (h | h | h)
      · exact Or.inr (Or.inl h)
      · exact Or.inl h
      · exact Or.inr (Or.inr h)
    · rintro (h | h | h)
      · exact Or.inr (Or.inl h)
      · exact Or.inl h
      · exact Or.inr (Or.inr h)
/-- What is found behind an addition. -/
theorem add_in {L : List Rg} (h : RL L) {x : Rg} (hx : Vd x) (hb : bz L x = false) {p : Int} (h1 : x.f ≤ p) (h2 : p < x.t) : fd (addL L x) p = some x ∧ fd L p = none := by
  refine ⟨fd_mem (h.add hx hb) ((mem_addL L x x).2 (Or.inl rfl)) ⟨h1, h2⟩, fd_none fun z hz hp => ?_⟩
  have := bz_no h hb z hz
  omega
theorem add_out {L : List Rg} (h : RL L) {x : Rg} (hx : Vd x) (hb : bz L x = false) {p : Int} (hp : ¬ (x.f ≤ p ∧ p < x.t)) : fd (addL L x) p = fd L p := by
  cases hf : fd L p with
  | none =>
    apply fd_none
    intro z hz hzp
    rcases (mem_addL L x z).1 hz with h1 | h1
    · rw [h1] at hzp; exact hp hzp
    · exact fd_no hf z h1 hzp
  | some z =>
    obtain ⟨h1, h2⟩ := fd_some hf
    exact fd_mem (h.add hx hb) ((mem_addL L x z).2 (Or.inr h1)) h2
/-- A page just behind one. -/
theorem fd_behind {L : List Rg} (h : RL L) {i : Nat} (hi : i < L.length) : (∀ hj : i + 1 < L.length, L[i + 1].f = L[i].t → fd L L[i].t = some L[i + 1]) ∧ ((∀ hj : i + 1 < L.length, L[i + 1].f ≠ L[i].t) → fd L L[i].t = none) := by
  constructor
  · intro hj e
    have := (h.vd hj).2.1
    exact fd_mem h (List.getElem_mem hj) ⟨by omega, by omega⟩
  · intro hne
    apply fd_none
    intro z hz hp
    obtain ⟨j, hj, rfl⟩ := List.getElem_of_mem hz
    rcases Nat.lt_trichotomy j i with h1 | h1 | h1
    · have := h.lt hi h1
      have := (h.vd hi).2.1
      omega
    · subst h1
      omega
    · have h2 : i + 1 < L.length := by omega
      have h3 := hne h2
      have h4 := h.lt h2 (Nat.lt_succ_self i)
      rcases Nat.lt_or_eq_of_le (show i + 1 ≤ j from h1) with h5 | h5
      · have := h.lt hj h5
        have := (h.vd h2).2.1
        omega
      · have e : L[j] = L[i + 1] := by simp [h5]
        rw [e] at hp
        omega
end Go.Proofs.Ytagobeoabkbhaaa
