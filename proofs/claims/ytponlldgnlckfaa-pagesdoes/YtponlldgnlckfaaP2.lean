/-
  What the program's three maps have, as functions of the list of pages, and how each call turns them.
-/
import Derived.Test.YtponlldgnlckfaaP1
namespace Go.Proofs.Ytponlldgnlckfaa
open Go.RowKit

def GP (L : List Pg) (id : Int) : Option Value := if has L id then some (pv (pg L id.toNat)) else none
def GF (L : List Pg) (x : Int × Int) : Option Value := if 0 ≤ ofL L x.1 x.2 then some (.int .i64 (ofL L x.1 x.2)) else none
def GS (L : List Pg) (x : Int × Int) : Option Value := if 0 ≤ atL L x.1 x.2 then some (.int .i64 (atL L x.1 x.2)) else none
def liveP (q : Pg) : Bool := !q.gn
def fileP (q : Pg) : Bool := !q.gn && decide (0 ≤ q.kf)
def somP (q : Pg) : Bool := !q.gn && decide (q.pl ≠ 0)
def bn (b : Bool) : Nat := if b then 1 else 0

theorem count_set (p : Pg → Bool) (L : List Pg) (k : Nat) (hk : k < L.length) (x : Pg) : (L.set k x).countP p + bn (p (pg L k)) = L.countP p + bn (p x) := by
  induction L generalizing k with
  | nil => simp at hk
  | cons y L ih =>
    cases k with
    | zero =>
      show (x :: L).countP p + bn (p y) = _
      rw [List.countP_cons, List.countP_cons]
      unfold bn; omega
    | succ k =>
      have := ih k (by simpa using hk)
      show (y :: L.set k x).countP p + bn (p (pg L k)) = _
      rw [List.countP_cons, List.countP_cons]
      omega
theorem count_app (p : Pg → Bool) (L : List Pg) (x : Pg) : (L ++ [x]).countP p = L.countP p + bn (p x) := by
  rw [List.countP_append]
  simp [List.countP_cons, bn]
theorem count_le (p : Pg → Bool) (L : List Pg) : L.countP p ≤ L.length := List.countP_le_length

theorem GP_some (L : List Pg) (id : Int) : (GP L id).isSome = has L id := by
  unfold GP; split <;> simp [*]
theorem GP_nat {L : List Pg} {k : Nat} (hk : k < L.length) (hg : (pg L k).gn = false) : GP L k = some (pv (pg L k)) := by
  unfold GP
  rw [if_pos ((has_nat L k).2 ⟨hk, hg⟩)]
  simp
theorem GP_get (L : List Pg) (id : Int) : (GP L id).getD (pv gone) = pv (getL L id) := by
  unfold GP getL
  split <;> rfl
theorem GF_get (L : List Pg) (x : Int × Int) : (0 ≤ ofL L x.1 x.2 ∧ GF L x = some (.int .i64 (ofL L x.1 x.2))) ∨ (ofL L x.1 x.2 = -1 ∧ GF L x = none) := by
  unfold GF
  rcases of_cases L x.1 x.2 with e | ⟨k, -, e, -⟩
  · exact Or.inr ⟨e, by rw [e]; rfl⟩
  · exact Or.inl ⟨by omega, by rw [if_pos (by omega)]⟩
theorem GS_get (L : List Pg) (x : Int × Int) : (0 ≤ atL L x.1 x.2 ∧ GS L x = some (.int .i64 (atL L x.1 x.2))) ∨ (atL L x.1 x.2 = -1 ∧ GS L x = none) := by
  unfold GS
  rcases at_cases L x.1 x.2 with e | ⟨k, -, e, -⟩
  · exact Or.inr ⟨e, by rw [e]; rfl⟩
  · exact Or.inl ⟨by omega, by rw [if_pos (by omega)]⟩
theorem has_of {L : List Pg} {f i : Int} (h : 0 ≤ ofL L f i) : 0 ≤ f := by
  unfold ofL at h
  by_cases hf : 0 ≤ f
  · exact hf
  · rw [if_neg hf] at h; omega
theorem pair_iff (y : Int × Int) (a b : Int) : y = (a, b) ↔ y.1 = a ∧ y.2 = b := ⟨fun h => by rw [h]; exact ⟨rfl, rfl⟩, fun h => Prod.ext h.1 h.2⟩

/-! ### one page turned -/
theorem GP_set {L : List Pg} {k : Nat} (hk : k < L.length) (x : Pg) (id : Int) : GP (L.set k x) id = if id = k then (if x.gn then none else some (pv x)) else GP L id := by
  unfold GP
  rw [has_set hk]
  by_cases e : id = k
  · subst e
    rw [if_pos rfl, if_pos rfl]
    have : pg (L.set k x) ((k : Int).toNat) = x := by simp [pg_set hk]
    rw [this]
    cases x.gn <;> rfl
  · rw [if_neg e, if_neg e]
    by_cases h : has L id = true
    · obtain ⟨j, rfl, hj, hg⟩ := has_nat' h
      have : ¬ j = k := fun h => e (by rw [h])
      simp [pg_set hk, this]
    · simp [h]
theorem GF_set {L : List Pg} {k : Nat} (hk : k < L.length) (x : Pg) (h1 : x.gn = (pg L k).gn) (h2 : x.kf = (pg L k).kf) (h3 : x.ki = (pg L k).ki) (y : Int × Int) : GF (L.set k x) y = GF L y := by
  unfold GF
  rw [of_set hk x h1 h2 h3]
theorem GS_set {L : List Pg} {k : Nat} (hk : k < L.length) (x : Pg) (h1 : x.gn = (pg L k).gn) (h2 : x.pl = (pg L k).pl) (h3 : x.at' = (pg L k).at') (y : Int × Int) : GS (L.set k x) y = GS L y := by
  unfold GS
  rw [at_set hk x h1 h2 h3]
theorem nP_set {L : List Pg} {k : Nat} (hk : k < L.length) (x : Pg) (h1 : x.gn = (pg L k).gn) : (L.set k x).countP liveP = L.countP liveP := by
  have := count_set liveP L k hk x
  have e : liveP x = liveP (pg L k) := by simp [liveP, h1]
  rw [e] at this; omega
theorem nF_set {L : List Pg} {k : Nat} (hk : k < L.length) (x : Pg) (h1 : x.gn = (pg L k).gn) (h2 : x.kf = (pg L k).kf) : (L.set k x).countP fileP = L.countP fileP := by
  have := count_set fileP L k hk x
  have e : fileP x = fileP (pg L k) := by simp [fileP, h1, h2]
  rw [e] at this; omega
theorem nS_set {L : List Pg} {k : Nat} (hk : k < L.length) (x : Pg) (h1 : x.gn = (pg L k).gn) (h2 : x.pl = (pg L k).pl) : (L.set k x).countP somP = L.countP somP := by
  have := count_set somP L k hk x
  have e : somP x = somP (pg L k) := by simp [somP, h1, h2]
  rw [e] at this; omega

/-! ### dropped -/
section
variable {M : Int} {L : List Pg} {k : Nat}
theorem GP_drop (hk : k < L.length) (id : Int) : GP (L.set k (dropG (pg L k))) id = if id = k then none else GP L id := by
  rw [GP_set hk]; rfl
theorem GF_drop (h : Ok M L) (hk : k < L.length) (hg : (pg L k).gn = false) (y : Int × Int) : GF (L.set k (dropG (pg L k))) y = if y = ((pg L k).kf, (pg L k).ki) then none else GF L y := by
  unfold GF
  rw [of_drop h hk hg]
  by_cases e : y.1 = (pg L k).kf ∧ y.2 = (pg L k).ki
  · rw [if_pos e, if_pos ((pair_iff _ _ _).2 e)]; rfl
  · rw [if_neg e, if_neg (fun h => e ((pair_iff _ _ _).1 h))]
theorem GS_drop (hk : k < L.length) (hp : (pg L k).pl = 0) (y : Int × Int) : GS (L.set k (dropG (pg L k))) y = GS L y := by
  unfold GS
  rw [at_drop hk hp]
theorem nP_drop (hk : k < L.length) (hg : (pg L k).gn = false) : (L.set k (dropG (pg L k))).countP liveP = L.countP liveP - 1 := by
  have := count_set liveP L k hk (dropG (pg L k))
  have e : liveP (dropG (pg L k)) = false := by simp [liveP, dropG]
  have e2 : liveP (pg L k) = true := by simp [liveP, hg]
  rw [e, e2] at this
  simp [bn] at this; omega
theorem GF_key (h : Ok M L) (hk : k < L.length) (hg : (pg L k).gn = false) : (GF L ((pg L k).kf, (pg L k).ki)).isSome = decide (0 ≤ (pg L k).kf) := by
  by_cases hf : 0 ≤ (pg L k).kf
  · rcases GF_get L ((pg L k).kf, (pg L k).ki) with ⟨-, e⟩ | ⟨e, -⟩
    · rw [e]; simp [hf]
    · have e' : ofL L (pg L k).kf (pg L k).ki = -1 := e
      rw [of_is h hk hg hf] at e'; omega
  · rcases GF_get L ((pg L k).kf, (pg L k).ki) with ⟨e, -⟩ | ⟨-, e⟩
    · exact absurd (has_of e) hf
    · rw [e]; simp [hf]
theorem GS_key (h : Ok M L) (hk : k < L.length) (hg : (pg L k).gn = false) : (GS L ((pg L k).pl, (pg L k).at')).isSome = decide ((pg L k).pl ≠ 0) := by
  by_cases hf : (pg L k).pl = 0
  · rcases GS_get L ((pg L k).pl, (pg L k).at') with ⟨e, -⟩ | ⟨-, e⟩
    · have e' : 0 ≤ atL L (pg L k).pl (pg L k).at' := e
      rw [hf] at e'
      simp [atL] at e'
    · rw [e]; simp [hf]
  · rcases GS_get L ((pg L k).pl, (pg L k).at') with ⟨-, e⟩ | ⟨e, -⟩
    · rw [e]; simp [hf]
    · have e' : atL L (pg L k).pl (pg L k).at' = -1 := e
      rw [at_is h hk hg hf] at e'; omega
theorem nF_drop (h : Ok M L) (hk : k < L.length) (hg : (pg L k).gn = false) : (if (GF L ((pg L k).kf, (pg L k).ki)).isSome then L.countP fileP - 1 else L.countP fileP) = (L.set k (dropG (pg L k))).countP fileP := by
  have := count_set fileP L k hk (dropG (pg L k))
  have e : fileP (dropG (pg L k)) = false := by simp [fileP, dropG]
  have e2 : fileP (pg L k) = decide (0 ≤ (pg L k).kf) := by simp [fileP, hg]
  rw [e, e2] at this
  rw [GF_key h hk hg]
  by_cases hf : 0 ≤ (pg L k).kf
  · simp [hf, bn] at this ⊢; omega
  · simp [hf, bn] at this ⊢; omega
theorem nS_drop (hk : k < L.length) (hp : (pg L k).pl = 0) : (L.set k (dropG (pg L k))).countP somP = L.countP somP := by
  have := count_set somP L k hk (dropG (pg L k))
  have e : somP (dropG (pg L k)) = false := by simp [somP, dropG]
  have e2 : somP (pg L k) = false := by simp [somP, hp]
  rw [e, e2] at this; omega

/-! ### put -/
/-- Who is where once a page has left its place. -/
def GL (L : List Pg) (k : Nat) (y : Int × Int) : Option Value := if y = ((pg L k).pl, (pg L k).at') then none else GS L y
def nL (L : List Pg) (k : Nat) : Nat := if (GS L ((pg L k).pl, (pg L k).at')).isSome then L.countP somP - 1 else L.countP somP
theorem GS_put0 (h : Ok M L) {a : Int} (he : putE L k 0 a = 0) (y : Int × Int) : GL L k y = GS (L.set k (putG 0 a (pg L k))) y := by
  unfold GL GS
  have c0 : ¬ (y.1 ≠ 0 ∧ y.1 = 0 ∧ y.2 = a) := fun h => h.1 h.2.1
  rw [at_put h he, if_neg c0]
  by_cases e : y.1 = (pg L k).pl ∧ y.2 = (pg L k).at'
  · rw [if_pos e, if_pos ((pair_iff _ _ _).2 e)]; rfl
  · rw [if_neg e, if_neg (fun h => e ((pair_iff _ _ _).1 h))]
theorem GS_put (h : Ok M L) {p a : Int} (hp : p ≠ 0) (he : putE L k p a = 0) (y : Int × Int) : (if y = (p, a) then some (.int .i64 k) else GL L k y) = GS (L.set k (putG p a (pg L k))) y := by
  unfold GL GS
  rw [at_put h he]
  by_cases e0 : y.1 = p ∧ y.2 = a
  · have c1 : y = (p, a) := (pair_iff _ _ _).2 e0
    have c2 : y.1 ≠ 0 ∧ y.1 = p ∧ y.2 = a := ⟨by rw [e0.1]; exact hp, e0⟩
    rw [if_pos c1, if_pos c2, if_pos (by omega)]
  · have c1 : ¬ y = (p, a) := fun h => e0 ((pair_iff _ _ _).1 h)
    have c2 : ¬ (y.1 ≠ 0 ∧ y.1 = p ∧ y.2 = a) := fun h => e0 h.2
    rw [if_neg c1, if_neg c2]
    by_cases e : y.1 = (pg L k).pl ∧ y.2 = (pg L k).at'
    · rw [if_pos e, if_pos ((pair_iff _ _ _).2 e)]; rfl
    · rw [if_neg e, if_neg (fun h => e ((pair_iff _ _ _).1 h))]
theorem GL_free {p a : Int} (he : putE L k p a = 0) : GL L k (p, a) = none := by
  obtain ⟨-, -, h3⟩ := put_ok he
  unfold GL
  split
  · rfl
  · rename_i hne
    rcases GS_get L (p, a) with ⟨e, -⟩ | ⟨-, e⟩
    · have e' : 0 ≤ atL L p a := e
      have h4 := h3 e'
      rcases at_cases L p a with h5 | ⟨m, -, h5, -, -, g2, g3⟩
      · omega
      · have : m = k := by omega
        subst this
        exact absurd ((pair_iff _ _ _).2 ⟨g2.symm, g3.symm⟩) hne
    · exact e
theorem nL_is (h : Ok M L) (hk : k < L.length) (hg : (pg L k).gn = false) : nL L k + bn (somP (pg L k)) = L.countP somP := by
  have := count_set somP L k hk (dropG (pg L k))
  have e : somP (dropG (pg L k)) = false := by simp [somP, dropG]
  have e2 : somP (pg L k) = decide ((pg L k).pl ≠ 0) := by simp [somP, hg]
  rw [e, e2] at this
  unfold nL
  rw [GS_key h hk hg, e2]
  by_cases hf : (pg L k).pl = 0
  · simp [hf, bn]
  · simp [hf, bn] at this ⊢; omega
theorem nS_put0 (h : Ok M L) (hk : k < L.length) (hg : (pg L k).gn = false) (a : Int) : nL L k = (L.set k (putG 0 a (pg L k))).countP somP := by
  have h1 := count_set somP L k hk (putG 0 a (pg L k))
  have h2 := nL_is h hk hg
  have e : somP (putG 0 a (pg L k)) = false := by simp [somP, putG]
  rw [e] at h1
  simp only [bn] at h1 h2
  simp at h1; omega
theorem nS_put (h : Ok M L) (hk : k < L.length) (hg : (pg L k).gn = false) {p : Int} (hp : p ≠ 0) (a : Int) : nL L k + 1 = (L.set k (putG p a (pg L k))).countP somP := by
  have h1 := count_set somP L k hk (putG p a (pg L k))
  have h2 := nL_is h hk hg
  have e : somP (putG p a (pg L k)) = true := by
    have : (pg L k).gn = false := hg
    simp [somP, putG, hp, this]
  rw [e] at h1
  have h3 : bn true = 1 := rfl
  omega
end

/-! ### made -/
section
variable {L : List Pg} {f i o : Int}
theorem GP_make (id : Int) : (if id = (L.length : Int) then some (pv (newPg L.length f i o)) else GP L id) = GP (L ++ [newPg L.length f i o]) id := by
  by_cases e : id = (L.length : Int)
  · subst e
    rw [if_pos rfl]
    have := GP_nat (L := L ++ [newPg L.length f i o]) (k := L.length) (by simp) (by rw [pg_last]; exact (newPg_f _ _ _ _).1)
    rw [this, pg_last]
  · rw [if_neg e]
    unfold GP
    have : has (L ++ [newPg L.length f i o]) id = has L id := by
      apply Bool.eq_iff_iff.2
      rw [has_iff, has_iff, List.length_append]
      constructor
      · intro ⟨h1, h2, h3⟩
        have h4 : id.toNat < L.length := by simp at h2; omega
        rw [pg_app _ h4] at h3
        exact ⟨h1, by omega, h3⟩
      · intro ⟨h1, h2, h3⟩
        have h4 : id.toNat < L.length := by omega
        rw [pg_app _ h4]
        exact ⟨h1, by simp; omega, h3⟩
    rw [this]
    by_cases h : has L id = true
    · obtain ⟨j, rfl, hj, -⟩ := has_nat' h
      simp [pg_app _ hj]
    · simp [h]
theorem GF_make (hb : busyL L f i = false) (hf : 0 ≤ f) (y : Int × Int) : (if y = (f, i) then some (.int .i64 L.length) else GF L y) = GF (L ++ [newPg L.length f i o]) y := by
  unfold GF
  rw [of_make hb]
  by_cases e : y.1 = f ∧ y.2 = i
  · have c1 : y = (f, i) := (pair_iff _ _ _).2 e
    have c2 : 0 ≤ f ∧ y.1 = f ∧ y.2 = i := ⟨hf, e⟩
    rw [if_pos c1, if_pos c2, if_pos (by omega)]
  · have c1 : ¬ y = (f, i) := fun h => e ((pair_iff _ _ _).1 h)
    have c2 : ¬ (0 ≤ f ∧ y.1 = f ∧ y.2 = i) := fun h => e h.2
    rw [if_neg c1, if_neg c2]
theorem GF_make0 (hb : busyL L f i = false) (hf : ¬ 0 ≤ f) (y : Int × Int) : GF L y = GF (L ++ [newPg L.length f i o]) y := by
  unfold GF
  have c0 : ¬ (0 ≤ f ∧ y.1 = f ∧ y.2 = i) := fun h => hf h.1
  rw [of_make hb, if_neg c0]
theorem GF_free (hb : busyL L f i = false) : GF L (f, i) = none := by
  rcases GF_get L (f, i) with ⟨e, -⟩ | ⟨-, e⟩
  · have e' : 0 ≤ ofL L f i := e
    simp [busyL, e'] at hb
  · exact e
theorem GS_make (y : Int × Int) : GS L y = GS (L ++ [newPg L.length f i o]) y := by
  unfold GS
  rw [at_make]
theorem GP_next : GP L (L.length : Int) = none := by
  unfold GP
  rw [if_neg]
  intro h
  have := (has_nat L L.length).1 h
  omega
theorem nP_make : L.countP liveP + 1 = (L ++ [newPg L.length f i o]).countP liveP := by
  rw [count_app]
  simp [liveP, bn, (newPg_f L.length f i o).1]
theorem nF_make (hf : 0 ≤ f) : L.countP fileP + 1 = (L ++ [newPg L.length f i o]).countP fileP := by
  rw [count_app]
  have : (newPg L.length f i o).kf = f := by simp [newPg, hf]
  simp [fileP, bn, (newPg_f L.length f i o).1, this, hf]
theorem nF_make0 (hf : ¬ 0 ≤ f) : L.countP fileP = (L ++ [newPg L.length f i o]).countP fileP := by
  rw [count_app]
  have : (newPg L.length f i o).kf = -1 := by simp [newPg, hf]
  simp [fileP, bn, (newPg_f L.length f i o).1, this]
theorem nS_make : L.countP somP = (L ++ [newPg L.length f i o]).countP somP := by
  rw [count_app]
  simp [somP, bn, (newPg_f L.length f i o).2.1]
end

/-! ### the table -/
/-- The table at block t, its maps at mp, mf, ms. -/
structure PT (w0 w : World) (t mp mf ms : Nat) (L : List Pg) : Prop where
  h : RowAt w t 66 [.int .i64 L.length, .map (some mp), .map (some mf), .map (some ms)]
  p : MapG 3 mkI w mp (L.countP liveP) (GP L)
  f : MapG 24 mkK w mf (L.countP fileP) (GF L)
  s : MapG 73 mkK w ms (L.countP somP) (GS L)
  ne : mp ≠ mf ∧ mp ≠ ms ∧ mf ≠ ms
  lo : w0.heap.size ≤ t ∧ w0.heap.size ≤ mp ∧ w0.heap.size ≤ mf ∧ w0.heap.size ≤ ms
  bel : Below w0.heap.size w0 w
/-- These four blocks. -/
def Fo (t mp mf ms k : Nat) : Prop := k = t ∨ k = mp ∨ k = mf ∨ k = ms
def TbP (w0 w : World) (t : Nat) (S : Nat → Prop) (L : List Pg) : Prop := ∃ mp mf ms, PT w0 w t mp mf ms L ∧ S = Fo t mp mf ms
section
variable {w0 w w' : World} {t mp mf ms : Nat} {L L' : List Pg} {S : Nat → Prop}
theorem PT.c0 (h : PT w0 w t mp mf ms L) : w.cell? ⟨t, 0, none⟩ = some (.int .i64 L.length) := by rw [h.h.cell]; rfl
theorem PT.c1 (h : PT w0 w t mp mf ms L) : w.cell? ⟨t, 1, none⟩ = some (.map (some mp)) := by rw [h.h.cell]; rfl
theorem PT.c2 (h : PT w0 w t mp mf ms L) : w.cell? ⟨t, 2, none⟩ = some (.map (some mf)) := by rw [h.h.cell]; rfl
theorem PT.c3 (h : PT w0 w t mp mf ms L) : w.cell? ⟨t, 3, none⟩ = some (.map (some ms)) := by rw [h.h.cell]; rfl
theorem PT.lt (h : PT w0 w t mp mf ms L) : t < w.heap.size ∧ mp < w.heap.size ∧ mf < w.heap.size ∧ ms < w.heap.size := ⟨h.h.lt, h.p.lt, h.f.lt, h.s.lt⟩
theorem PT.nt (h : PT w0 w t mp mf ms L) : t ≠ mp ∧ t ≠ mf ∧ t ≠ ms := ⟨h.p.not_row h.h, h.f.not_row h.h, h.s.not_row h.h⟩
theorem PT.later (h : PT w0 w t mp mf ms L) (hb : Below w.heap.size w w') : PT w0 w' t mp mf ms L :=
  ⟨h.h.below hb h.h.lt, h.p.below hb, h.f.below hb, h.s.below hb, h.ne, h.lo, bel_trans h.bel hb (Nat.le_refl _)⟩
theorem PT.drewN (h : PT w0 w t mp mf ms L) (n : Nat) : PT w0 (w.drewN n) t mp mf ms L := h.later ⟨rfl, rfl, rfl, Nat.le_refl _, fun _ _ => rfl⟩
/-- One of the maps turned. -/
theorem Out.but {S : Nat → Prop} {b : Nat} (h : But b w w') (hb : S b) : Out S w w' := ⟨h.os, h.tape, h.output, Nat.le_of_eq h.size.symm, fun k _ hn => h.block k (fun e => hn (e ▸ hb))⟩
theorem Out.trans {S : Nat → Prop} {u v w : World} (h : Out S u v) (k : Out S v w) : Out S u w :=
  ⟨k.os.trans h.os, k.tape.trans h.tape, k.output.trans h.output, Nat.le_trans h.size k.size, fun i hi hn => (k.block i (Nat.lt_of_lt_of_le hi h.size) hn).trans (h.block i hi hn)⟩
theorem PT.bel_out (h : PT w0 w t mp mf ms L) (ho : Out (Fo t mp mf ms) w w') : Below w0.heap.size w0 w' :=
  h.bel.trans (ho.below h.bel.size (fun k hk => by obtain ⟨l1, l2, l3, l4⟩ := h.lo; rcases hk with rfl | rfl | rfl | rfl <;> assumption))
end
end Go.Proofs.Ytponlldgnlckfaa
