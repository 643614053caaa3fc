/-
  Pages as a list by ids: what is made, put, referred to, dropped, owned, marked, and found, as functions of that list. No program is named here.
-/
namespace Go.Proofs.Ytponlldgnlckfaa

/-- A page: its key, its place, its owner, how many lead to it, whether it is dirty; and whether it is there no more. -/
structure Pg where
  kf : Int
  ki : Int
  pl : Int
  at' : Int
  ow : Int
  rf : Int
  dr : Bool
  gn : Bool
def pz : Pg := ⟨0, 0, 0, 0, 0, 0, false, false⟩
theorem Pg.eq {x y : Pg} (h1 : x.kf = y.kf) (h2 : x.ki = y.ki) (h3 : x.pl = y.pl) (h4 : x.at' = y.at') (h5 : x.ow = y.ow) (h6 : x.rf = y.rf) (h7 : x.dr = y.dr) (h8 : x.gn = y.gn) : x = y := by
  cases x; cases y; simp at h1 h2 h3 h4 h5 h6 h7 h8; simp [h1, h2, h3, h4, h5, h6, h7, h8]
/-- The i-th one. -/
def pg (L : List Pg) (i : Nat) : Pg := L.getD i pz
theorem pg_get {L : List Pg} {i : Nat} (h : i < L.length) : pg L i = L[i] := by simp [pg, h]
theorem pg_mem {L : List Pg} {i : Nat} (h : i < L.length) : pg L i ∈ L := by rw [pg_get h]; exact List.getElem_mem h
theorem pg_set {L : List Pg} {k : Nat} (h : k < L.length) (x : Pg) (i : Nat) : pg (L.set k x) i = if i = k then x else pg L i := by
  unfold pg
  by_cases e : i = k
  · subst e; simp [h]
  · rw [if_neg e]
    have e' : ¬ k = i := fun h => e h.symm
    simp [List.getD_eq_getElem?_getD, e']
theorem pg_app {L : List Pg} (x : Pg) {i : Nat} (h : i < L.length) : pg (L ++ [x]) i = pg L i := by
  simp [pg, List.getD_eq_getElem?_getD, List.getElem?_append_left h]
theorem pg_last (L : List Pg) (x : Pg) : pg (L ++ [x]) L.length = x := by
  simp [pg, List.getD_eq_getElem?_getD]

/-! ### the first that is so -/
def fx (p : Pg → Bool) (L : List Pg) : Int := match L.findIdx? p with | some i => (i : Int) | none => -1
theorem fx_cases (p : Pg → Bool) (L : List Pg) : (fx p L = -1 ∧ ∀ i, i < L.length → p (pg L i) = false) ∨ ∃ i, i < L.length ∧ fx p L = i ∧ p (pg L i) = true ∧ ∀ j, j < i → p (pg L j) = false := by
  unfold fx
  cases h : L.findIdx? p with
  | none =>
    left
    rw [List.findIdx?_eq_none_iff] at h
    exact ⟨rfl, fun i hi => h _ (pg_mem hi)⟩
  | some i =>
    right
    rw [List.findIdx?_eq_some_iff_getElem] at h
    obtain ⟨hi, h1, h2⟩ := h
    refine ⟨i, hi, rfl, by rw [pg_get hi]; exact h1, fun j hj => ?_⟩
    rw [pg_get (by omega)]
    simpa using h2 j hj
theorem fx_none {p : Pg → Bool} {L : List Pg} (h : ∀ i, i < L.length → p (pg L i) = false) : fx p L = -1 := by
  rcases fx_cases p L with h1 | ⟨i, hi, -, h1, -⟩
  · exact h1.1
  · rw [h i hi] at h1; cases h1
theorem fx_first {p : Pg → Bool} {L : List Pg} {i : Nat} (hi : i < L.length) (h : p (pg L i) = true) (h2 : ∀ j, j < i → p (pg L j) = false) : fx p L = i := by
  rcases fx_cases p L with ⟨-, h1⟩ | ⟨j, hj, e, h1, h3⟩
  · rw [h1 i hi] at h; cases h
  · rw [e]
    by_cases h4 : j < i
    · rw [h2 j h4] at h1; cases h1
    · by_cases h5 : i < j
      · rw [h3 i h5] at h; cases h
      · have : i = j := by omega
        rw [this]
theorem fx_only {p : Pg → Bool} {L : List Pg} {i : Nat} (hi : i < L.length) (h : p (pg L i) = true) (h2 : ∀ j, j < L.length → j ≠ i → p (pg L j) = false) : fx p L = i :=
  fx_first hi h fun j hj => h2 j (by omega) (by omega)
theorem fx_bounds (p : Pg → Bool) (L : List Pg) : -1 ≤ fx p L ∧ fx p L < L.length := by
  rcases fx_cases p L with ⟨e, -⟩ | ⟨i, hi, e, -⟩ <;> rw [e] <;> omega
/-- Lists of which each place is so alike. -/
theorem fx_congr {p q : Pg → Bool} {L K : List Pg} (hl : L.length = K.length) (h : ∀ i, i < L.length → p (pg L i) = q (pg K i)) : fx p L = fx q K := by
  rcases fx_cases q K with ⟨e, h1⟩ | ⟨i, hi, e, h1, h2⟩
  · rw [e]
    exact fx_none fun i hi => by rw [h i hi]; exact h1 i (by omega)
  · rw [e]
    exact fx_first (by omega) (by rw [h i (by omega)]; exact h1) fun j hj => by rw [h j (by omega)]; exact h2 j hj
theorem fx_app {p : Pg → Bool} {L : List Pg} (x : Pg) : fx p (L ++ [x]) = if 0 ≤ fx p L then fx p L else if p x then (L.length : Int) else -1 := by
  rcases fx_cases p L with ⟨e, h1⟩ | ⟨i, hi, e, h1, h2⟩
  · rw [e, if_neg (by omega)]
    cases hp : p x with
    | true =>
      rw [if_pos rfl]
      exact fx_first (by simp) (by rw [pg_last]; exact hp) fun j hj => by rw [pg_app x hj]; exact h1 j hj
    | false =>
      rw [if_neg (by simp)]
      refine fx_none fun i hi => ?_
      simp at hi
      by_cases h3 : i < L.length
      · rw [pg_app x h3]; exact h1 i h3
      · have : i = L.length := by omega
        subst this
        rw [pg_last]; exact hp
  · rw [e, if_pos (by omega)]
    exact fx_first (by simp; omega) (by rw [pg_app x hi]; exact h1) fun j hj => by rw [pg_app x (by omega)]; exact h2 j hj

/-! ### what the calls answer, and leave -/
def has (L : List Pg) (id : Int) : Bool := decide (0 ≤ id ∧ id < L.length) && !(pg L id.toNat).gn
theorem has_iff (L : List Pg) (id : Int) : has L id = true ↔ 0 ≤ id ∧ id < L.length ∧ (pg L id.toNat).gn = false := by simp [has, and_assoc]
theorem has_nat (L : List Pg) (i : Nat) : has L i = true ↔ i < L.length ∧ (pg L i).gn = false := by
  rw [has_iff]; simp
def keyP (f i : Int) (q : Pg) : Bool := !q.gn && (q.kf == f && q.ki == i)
def spotP (p a : Int) (q : Pg) : Bool := !q.gn && (q.pl == p && q.at' == a)
theorem keyP_iff (f i : Int) (q : Pg) : keyP f i q = true ↔ q.gn = false ∧ q.kf = f ∧ q.ki = i := by simp [keyP]
theorem spotP_iff (p a : Int) (q : Pg) : spotP p a q = true ↔ q.gn = false ∧ q.pl = p ∧ q.at' = a := by simp [spotP]
/-- The id of a file's page. -/
def ofL (L : List Pg) (f i : Int) : Int := if 0 ≤ f then fx (keyP f i) L else -1
/-- The id of the page that is there. -/
def atL (L : List Pg) (p a : Int) : Int := if p = 0 then -1 else fx (spotP p a) L
/-- The page that a call answers, and the error. -/
def gone : Pg := ⟨0, 0, 0, 0, 0, 0, false, false⟩
def getL (L : List Pg) (id : Int) : Pg := if has L id then pg L id.toNat else gone
def getE (L : List Pg) (id : Int) : Int := if has L id then 0 else 2
def newPg (n : Nat) (f i ow : Int) : Pg := if 0 ≤ f then ⟨f, i, 0, 0, ow, 0, false, false⟩ else ⟨-1, n, 0, 0, ow, 0, false, false⟩
def busyL (L : List Pg) (f i : Int) : Bool := decide (0 ≤ ofL L f i)
def makeL (L : List Pg) (f i ow : Int) : List Pg := if busyL L f i then L else L ++ [newPg L.length f i ow]
def makeR (L : List Pg) (f i : Int) : Int := if busyL L f i then -1 else L.length
def makeE (L : List Pg) (f i : Int) : Int := if busyL L f i then 4 else 0
/-- One page turned. -/
def setL (L : List Pg) (id : Int) (g : Pg → Pg) : List Pg := L.set id.toNat (g (pg L id.toNat))
def badP (p a : Int) : Bool := decide (p < 0) || decide (2 < p) || decide (a < 0) || (decide (p = 0) && decide (a ≠ 0))
def putE (L : List Pg) (id p a : Int) : Int := if has L id then if badP p a then 1 else if 0 ≤ atL L p a ∧ atL L p a ≠ id then 4 else 0 else 2
def putG (p a : Int) (q : Pg) : Pg := { q with pl := p, at' := a }
def putL (L : List Pg) (id p a : Int) : List Pg := if putE L id p a = 0 then setL L id (putG p a) else L
def refE (L : List Pg) (id n : Int) : Int := if has L id then if n < -1000 ∨ 1000 < n ∨ (pg L id.toNat).rf + n < 0 then 1 else 0 else 2
def refG (n : Int) (q : Pg) : Pg := { q with rf := q.rf + n }
def refN (L : List Pg) (id n : Int) : Int := if refE L id n = 0 then (pg L id.toNat).rf + n else 0
def refL (L : List Pg) (id n : Int) : List Pg := if refE L id n = 0 then setL L id (refG n) else L
def dropE (L : List Pg) (id : Int) : Int := if has L id then if 0 < (pg L id.toNat).rf ∨ (pg L id.toNat).pl ≠ 0 then 4 else 0 else 2
def dropG (q : Pg) : Pg := { q with gn := true }
def dropL (L : List Pg) (id : Int) : List Pg := if dropE L id = 0 then setL L id dropG else L
def ownG (o : Int) (q : Pg) : Pg := { q with ow := o }
def markG (d : Bool) (q : Pg) : Pg := { q with dr := d }
def ownL (L : List Pg) (id o : Int) : List Pg := if has L id then setL L id (ownG o) else L
def markL (L : List Pg) (id : Int) (d : Bool) : List Pg := if has L id then setL L id (markG d) else L
/-- All ids that are so. -/
def idsN (L : List Pg) (p : Pg → Bool) (n : Nat) : List Int := ((List.range n).filter fun i => !(pg L i).gn && p (pg L i)).map fun i : Nat => (i : Int)
def idsL (L : List Pg) (p : Pg → Bool) : List Int := idsN L p L.length
def allP (_ : Pg) : Bool := true
def ownP (o : Int) (q : Pg) : Bool := q.ow == o

/-! ### acts -/
structure Ac where
  k : Int
  id : Int
  kf : Int
  ki : Int
  pl : Int
  n : Int
def kd (r : Ac) : Int := r.k.tmod 6
def doL (L : List Pg) (r : Ac) : List Pg :=
  if kd r = 0 then makeL L r.kf r.ki r.n else if kd r = 1 then putL L r.id r.pl r.n else if kd r = 2 then refL L r.id r.n else if kd r = 3 then dropL L r.id else if kd r = 4 then ownL L r.id r.n else markL L r.id (decide (0 < r.n))
def doN (L : List Pg) (r : Ac) : Int := if kd r = 0 then makeR L r.kf r.ki else if kd r = 2 then refN L r.id r.n else 0
def doE (L : List Pg) (r : Ac) : Int :=
  if kd r = 0 then makeE L r.kf r.ki else if kd r = 1 then putE L r.id r.pl r.n else if kd r = 2 then refE L r.id r.n else if kd r = 3 then dropE L r.id else getE L r.id

/-! ### what a table is -/
structure Ok (M : Int) (L : List Pg) : Prop where
  keys : ∀ i j, i < L.length → j < L.length → i ≠ j → (pg L i).gn = false → (pg L j).gn = false → ¬ ((pg L i).kf = (pg L j).kf ∧ (pg L i).ki = (pg L j).ki)
  ours : ∀ i, i < L.length → (pg L i).kf < 0 → (pg L i).kf = -1 ∧ (pg L i).ki = i
  spots : ∀ i j, i < L.length → j < L.length → i ≠ j → (pg L i).gn = false → (pg L j).gn = false → (pg L i).pl ≠ 0 → ¬ ((pg L i).pl = (pg L j).pl ∧ (pg L i).at' = (pg L j).at')
  refs : ∀ i, i < L.length → 0 ≤ (pg L i).rf ∧ (pg L i).rf ≤ M
  place : ∀ i, i < L.length → 0 ≤ (pg L i).pl ∧ (pg L i).pl ≤ 2 ∧ 0 ≤ (pg L i).at' ∧ ((pg L i).pl = 0 → (pg L i).at' = 0)
theorem Ok.nil : Ok 0 [] := ⟨fun i _ h => absurd h (Nat.not_lt_zero i), fun i h => absurd h (Nat.not_lt_zero i), fun i _ h => absurd h (Nat.not_lt_zero i), fun i h => absurd h (Nat.not_lt_zero i), fun i h => absurd h (Nat.not_lt_zero i)⟩
theorem Ok.more {M N : Int} {L : List Pg} (h : Ok M L) (hn : M ≤ N) : Ok N L := ⟨h.keys, h.ours, h.spots, fun i hi => by have := h.refs i hi; omega, h.place⟩

/-- Who has a key. -/
theorem of_is {M : Int} {L : List Pg} (h : Ok M L) {i : Nat} (hi : i < L.length) (hg : (pg L i).gn = false) (hf : 0 ≤ (pg L i).kf) : ofL L (pg L i).kf (pg L i).ki = i := by
  unfold ofL
  rw [if_pos hf]
  refine fx_only hi ((keyP_iff _ _ _).2 ⟨hg, rfl, rfl⟩) fun j hj hne => ?_
  cases hk : keyP (pg L i).kf (pg L i).ki (pg L j) with
  | false => rfl
  | true =>
    rw [keyP_iff] at hk
    exact absurd ⟨hk.2.1.symm, hk.2.2.symm⟩ (h.keys i j hi hj (Ne.symm hne) hg hk.1)
theorem at_is {M : Int} {L : List Pg} (h : Ok M L) {i : Nat} (hi : i < L.length) (hg : (pg L i).gn = false) (hp : (pg L i).pl ≠ 0) : atL L (pg L i).pl (pg L i).at' = i := by
  unfold atL
  rw [if_neg hp]
  refine fx_only hi ((spotP_iff _ _ _).2 ⟨hg, rfl, rfl⟩) fun j hj hne => ?_
  cases hk : spotP (pg L i).pl (pg L i).at' (pg L j) with
  | false => rfl
  | true =>
    rw [spotP_iff] at hk
    exact absurd ⟨hk.2.1.symm, hk.2.2.symm⟩ (h.spots i j hi hj (Ne.symm hne) hg hk.1 hp)
theorem of_cases (L : List Pg) (f i : Int) : ofL L f i = -1 ∨ ∃ k, k < L.length ∧ ofL L f i = k ∧ 0 ≤ f ∧ (pg L k).gn = false ∧ (pg L k).kf = f ∧ (pg L k).ki = i := by
  unfold ofL
  by_cases hf : 0 ≤ f
  · rw [if_pos hf]
    rcases fx_cases (keyP f i) L with ⟨e, -⟩ | ⟨k, hk, e, h1, -⟩
    · exact Or.inl e
    · rw [keyP_iff] at h1
      exact Or.inr ⟨k, hk, e, hf, h1⟩
  · rw [if_neg hf]; exact Or.inl rfl
theorem at_cases (L : List Pg) (p a : Int) : atL L p a = -1 ∨ ∃ k, k < L.length ∧ atL L p a = k ∧ p ≠ 0 ∧ (pg L k).gn = false ∧ (pg L k).pl = p ∧ (pg L k).at' = a := by
  unfold atL
  by_cases hp : p = 0
  · rw [if_pos hp]; exact Or.inl rfl
  · rw [if_neg hp]
    rcases fx_cases (spotP p a) L with ⟨e, -⟩ | ⟨k, hk, e, h1, -⟩
    · exact Or.inl e
    · rw [spotP_iff] at h1
      exact Or.inr ⟨k, hk, e, hp, h1⟩
theorem of_free {L : List Pg} {f i : Int} (h : ofL L f i = -1) (hf : 0 ≤ f) {j : Nat} (hj : j < L.length) (hg : (pg L j).gn = false) : ¬ ((pg L j).kf = f ∧ (pg L j).ki = i) := by
  unfold ofL at h
  rw [if_pos hf] at h
  rcases fx_cases (keyP f i) L with ⟨-, h1⟩ | ⟨k, hk, e, -⟩
  · intro h2
    have := h1 j hj
    rw [(keyP_iff f i _).2 ⟨hg, h2.1, h2.2⟩] at this
    cases this
  · rw [e] at h; omega
theorem at_free {L : List Pg} {p a : Int} (h : atL L p a = -1) (hp : p ≠ 0) {j : Nat} (hj : j < L.length) (hg : (pg L j).gn = false) : ¬ ((pg L j).pl = p ∧ (pg L j).at' = a) := by
  unfold atL at h
  rw [if_neg hp] at h
  rcases fx_cases (spotP p a) L with ⟨-, h1⟩ | ⟨k, hk, e, -⟩
  · intro h2
    have := h1 j hj
    rw [(spotP_iff p a _).2 ⟨hg, h2.1, h2.2⟩] at this
    cases this
  · rw [e] at h; omega

/-! ### each call leaves a table -/
theorem newPg_f (n : Nat) (f i ow : Int) : (newPg n f i ow).gn = false ∧ (newPg n f i ow).pl = 0 ∧ (newPg n f i ow).at' = 0 ∧ (newPg n f i ow).rf = 0 ∧ (newPg n f i ow).ow = ow ∧ (newPg n f i ow).dr = false := by
  unfold newPg; split <;> simp
theorem newPg_key (n : Nat) (f i ow : Int) : (0 ≤ f ∧ (newPg n f i ow).kf = f ∧ (newPg n f i ow).ki = i) ∨ (f < 0 ∧ (newPg n f i ow).kf = -1 ∧ (newPg n f i ow).ki = n) := by
  unfold newPg
  by_cases h : 0 ≤ f
  · left; simp [h]
  · right; simp [h]; omega
theorem ok_make {M : Int} {L : List Pg} (h : Ok M L) (hM : 0 ≤ M) (f i ow : Int) : Ok M (makeL L f i ow) := by
  unfold makeL
  by_cases hb : busyL L f i = true
  · rw [if_pos hb]; exact h
  · rw [if_neg hb]
    have hof : ofL L f i = -1 := by
      rcases of_cases L f i with e | ⟨k, -, e, -⟩
      · exact e
      · simp [busyL, e] at hb
    obtain ⟨n1, n2, n3, n4, -, -⟩ := newPg_f L.length f i ow
    have hnk := newPg_key L.length f i ow
    generalize newPg L.length f i ow = x at *
    have fresh : ∀ j, j < L.length → (pg L j).gn = false → ¬ (x.kf = (pg L j).kf ∧ x.ki = (pg L j).ki) := by
      intro j hj hg ⟨e1, e2⟩
      rcases hnk with ⟨hf, k1, k2⟩ | ⟨hf, k1, k2⟩
      · exact of_free hof hf hj hg ⟨by rw [← e1, k1], by rw [← e2, k2]⟩
      · have := (h.ours j hj (by rw [← e1, k1]; omega)).2
        rw [← e2, k2] at this
        omega
    have hc : ∀ j, j < (L ++ [x]).length → (j < L.length ∧ pg (L ++ [x]) j = pg L j) ∨ (j = L.length ∧ pg (L ++ [x]) j = x) := by
      intro j hj
      simp at hj
      by_cases h1 : j < L.length
      · exact Or.inl ⟨h1, pg_app x h1⟩
      · have : j = L.length := by omega
        subst this
        exact Or.inr ⟨rfl, pg_last L x⟩
    refine ⟨fun a b ha hb' hne => ?_, fun a ha => ?_, fun a b ha hb' hne => ?_, fun a ha => ?_, fun a ha => ?_⟩
    · rcases hc a ha with ⟨a1, a2⟩ | ⟨a1, a2⟩ <;> rcases hc b hb' with ⟨b1, b2⟩ | ⟨b1, b2⟩ <;> rw [a2, b2]
      · exact h.keys a b a1 b1 hne
      · intro g1 _ e; exact fresh a a1 g1 ⟨e.1.symm, e.2.symm⟩
      · intro _ g1 e; exact fresh b b1 g1 e
      · omega
    · rcases hc a ha with ⟨a1, a2⟩ | ⟨a1, a2⟩ <;> rw [a2]
      · exact h.ours a a1
      · intro hx
        rcases hnk with ⟨hf, k1, k2⟩ | ⟨hf, k1, k2⟩
        · omega
        · exact ⟨k1, by rw [k2, a1]⟩
    · rcases hc a ha with ⟨a1, a2⟩ | ⟨a1, a2⟩ <;> rcases hc b hb' with ⟨b1, b2⟩ | ⟨b1, b2⟩ <;> rw [a2, b2]
      · exact h.spots a b a1 b1 hne
      · intro _ _ hp e; rw [n2] at e; exact hp e.1
      · intro _ _ hp; exact absurd n2 hp
      · omega
    · rcases hc a ha with ⟨a1, a2⟩ | ⟨a1, a2⟩ <;> rw [a2]
      · exact h.refs a a1
      · rw [n4]; omega
    · rcases hc a ha with ⟨a1, a2⟩ | ⟨a1, a2⟩ <;> rw [a2]
      · exact h.place a a1
      · rw [n2, n3]; omega
/-- A page turned whose key, and whether it is there, stay or it goes. -/
theorem ok_set {M N : Int} {L : List Pg} (h : Ok M L) (hM : M ≤ N) {k : Nat} (hk : k < L.length) (x : Pg) (h1 : x.kf = (pg L k).kf ∧ x.ki = (pg L k).ki) (h2 : x.gn = false → (pg L k).gn = false)
    (h3 : 0 ≤ x.rf ∧ x.rf ≤ N) (h4 : 0 ≤ x.pl ∧ x.pl ≤ 2 ∧ 0 ≤ x.at' ∧ (x.pl = 0 → x.at' = 0)) (h5 : x.gn = false → x.pl ≠ 0 → ∀ j, j < L.length → j ≠ k → (pg L j).gn = false → ¬ (x.pl = (pg L j).pl ∧ x.at' = (pg L j).at')) :
    Ok N (L.set k x) := by
  have hl : (L.set k x).length = L.length := List.length_set ..
  refine ⟨fun i j hi hj hne => ?_, fun i hi => ?_, fun i j hi hj hne => ?_, fun i hi => ?_, fun i hi => ?_⟩
  all_goals rw [hl] at hi
  · rw [hl] at hj
    rw [pg_set hk, pg_set hk]
    by_cases e1 : i = k
    · subst e1
      rw [if_pos rfl, if_neg (Ne.symm hne), h1.1, h1.2]
      intro g1
      exact h.keys i j hi hj hne (h2 g1)
    · rw [if_neg e1]
      by_cases e2 : j = k
      · subst e2
        rw [if_pos rfl, h1.1, h1.2]
        intro g1 g2
        exact h.keys i j hi hj hne g1 (h2 g2)
      · rw [if_neg e2]; exact h.keys i j hi hj hne
  · rw [pg_set hk]
    by_cases e1 : i = k
    · subst e1; rw [if_pos rfl, h1.1, h1.2]; exact h.ours i hi
    · rw [if_neg e1]; exact h.ours i hi
  · rw [hl] at hj
    rw [pg_set hk, pg_set hk]
    by_cases e1 : i = k
    · subst e1
      rw [if_pos rfl, if_neg (Ne.symm hne)]
      intro g1 g2 g3
      exact h5 g1 g3 j hj (Ne.symm hne) g2
    · rw [if_neg e1]
      by_cases e2 : j = k
      · subst e2
        rw [if_pos rfl]
        intro g1 g2 g3 g4
        exact h5 g2 (by rw [← g4.1]; exact g3) i hi hne g1 ⟨g4.1.symm, g4.2.symm⟩
      · rw [if_neg e2]; exact h.spots i j hi hj hne
  · rw [pg_set hk]
    by_cases e1 : i = k
    · rw [if_pos e1]; exact h3
    · rw [if_neg e1]; have := h.refs i hi; omega
  · rw [pg_set hk]
    by_cases e1 : i = k
    · rw [if_pos e1]; exact h4
    · rw [if_neg e1]; exact h.place i hi
theorem has_nat' {L : List Pg} {id : Int} (h : has L id = true) : ∃ k : Nat, id = k ∧ k < L.length ∧ (pg L k).gn = false := by
  rw [has_iff] at h
  refine ⟨id.toNat, by omega, by omega, h.2.2⟩
theorem setL_nat (L : List Pg) (k : Nat) (g : Pg → Pg) : setL L k g = L.set k (g (pg L k)) := rfl
theorem put_ok {L : List Pg} {id p a : Int} (h : putE L id p a = 0) : has L id = true ∧ badP p a = false ∧ (0 ≤ atL L p a → atL L p a = id) := by
  unfold putE at h
  by_cases h1 : has L id = true
  · rw [if_pos h1] at h
    cases h2 : badP p a with
    | true => rw [h2] at h; simp at h
    | false =>
      rw [h2] at h
      refine ⟨h1, rfl, fun h3 => ?_⟩
      by_cases h4 : atL L p a = id
      · exact h4
      · simp [h3, h4] at h
  · rw [if_neg h1] at h; cases h
theorem bad_iff (p a : Int) : badP p a = false ↔ 0 ≤ p ∧ p ≤ 2 ∧ 0 ≤ a ∧ (p = 0 → a = 0) := by
  simp [badP]
  omega
theorem put_free {M : Int} {L : List Pg} {id p a : Int} (hL : Ok M L) (h : putE L id p a = 0) (hp : p ≠ 0) {k : Nat} (e : id = k) {j : Nat} (hj : j < L.length) (hne : j ≠ k) (hg : (pg L j).gn = false) : ¬ (p = (pg L j).pl ∧ a = (pg L j).at') := by
  obtain ⟨-, -, h3⟩ := put_ok h
  rcases at_cases L p a with h4 | ⟨m, hm, h4, -, g1, g2, g3⟩
  · intro h5
    exact at_free h4 hp hj hg ⟨h5.1.symm, h5.2.symm⟩
  · have h6 := h3 (by omega)
    have h7 : m = k := by omega
    subst h7
    intro h5
    exact hL.spots j m hj hm hne hg g1 (by rw [← h5.1]; exact hp) ⟨by rw [← h5.1, g2], by rw [← h5.2, g3]⟩
theorem ok_put {M : Int} {L : List Pg} (h : Ok M L) (id p a : Int) : Ok M (putL L id p a) := by
  unfold putL
  by_cases he : putE L id p a = 0
  · rw [if_pos he]
    obtain ⟨h1, h2, -⟩ := put_ok he
    obtain ⟨k, rfl, hk, hg⟩ := has_nat' h1
    rw [setL_nat]
    have hb := (bad_iff p a).1 h2
    exact ok_set h (Int.le_refl _) hk _ ⟨rfl, rfl⟩ (fun _ => hg) (h.refs k hk) hb (fun _ hp j hj hne hgj => put_free h he hp rfl hj hne hgj)
  · rw [if_neg he]; exact h
theorem ref_ok {L : List Pg} {id n : Int} (h : refE L id n = 0) : has L id = true ∧ -1000 ≤ n ∧ n ≤ 1000 ∧ 0 ≤ (pg L id.toNat).rf + n := by
  unfold refE at h
  by_cases h1 : has L id = true
  · rw [if_pos h1] at h
    refine ⟨h1, ?_⟩
    by_cases h2 : n < -1000 ∨ 1000 < n ∨ (pg L id.toNat).rf + n < 0
    · rw [if_pos h2] at h; cases h
    · omega
  · rw [if_neg h1] at h; cases h
theorem ok_ref {M : Int} {L : List Pg} (h : Ok M L) (id n : Int) : Ok (M + 1000) (refL L id n) := by
  unfold refL
  by_cases he : refE L id n = 0
  · rw [if_pos he]
    obtain ⟨h1, h2, h3, h4⟩ := ref_ok he
    obtain ⟨k, rfl, hk, hg⟩ := has_nat' h1
    rw [setL_nat]
    have hr := h.refs k hk
    have h4' : 0 ≤ (pg L k).rf + n := h4
    exact ok_set h (by omega) hk _ ⟨rfl, rfl⟩ (fun _ => hg) ⟨h4', by show (pg L k).rf + n ≤ _; omega⟩ (h.place k hk) (fun _ hp j hj hne hgj => h.spots k j hk hj (Ne.symm hne) hg hgj hp)
  · rw [if_neg he]; exact h.more (by omega)
theorem drop_ok {L : List Pg} {id : Int} (h : dropE L id = 0) : has L id = true ∧ (pg L id.toNat).rf ≤ 0 ∧ (pg L id.toNat).pl = 0 := by
  unfold dropE at h
  by_cases h1 : has L id = true
  · rw [if_pos h1] at h
    refine ⟨h1, ?_⟩
    by_cases h2 : 0 < (pg L id.toNat).rf ∨ (pg L id.toNat).pl ≠ 0
    · rw [if_pos h2] at h; cases h
    · omega
  · rw [if_neg h1] at h; cases h
theorem ok_drop {M : Int} {L : List Pg} (h : Ok M L) (id : Int) : Ok M (dropL L id) := by
  unfold dropL
  by_cases he : dropE L id = 0
  · rw [if_pos he]
    obtain ⟨h1, h2, h3⟩ := drop_ok he
    obtain ⟨k, rfl, hk, hg⟩ := has_nat' h1
    rw [setL_nat]
    exact ok_set h (Int.le_refl _) hk _ ⟨rfl, rfl⟩ (fun h => by cases h) (h.refs k hk) (h.place k hk) (fun h => by cases h)
  · rw [if_neg he]; exact h
theorem ok_own {M : Int} {L : List Pg} (h : Ok M L) (id o : Int) : Ok M (ownL L id o) := by
  unfold ownL
  by_cases he : has L id = true
  · rw [if_pos he]
    obtain ⟨k, rfl, hk, hg⟩ := has_nat' he
    rw [setL_nat]
    exact ok_set h (Int.le_refl _) hk _ ⟨rfl, rfl⟩ (fun _ => hg) (h.refs k hk) (h.place k hk) (fun _ hp j hj hne hgj => h.spots k j hk hj (Ne.symm hne) hg hgj hp)
  · rw [if_neg he]; exact h
theorem ok_mark {M : Int} {L : List Pg} (h : Ok M L) (id : Int) (d : Bool) : Ok M (markL L id d) := by
  unfold markL
  by_cases he : has L id = true
  · rw [if_pos he]
    obtain ⟨k, rfl, hk, hg⟩ := has_nat' he
    rw [setL_nat]
    exact ok_set h (Int.le_refl _) hk _ ⟨rfl, rfl⟩ (fun _ => hg) (h.refs k hk) (h.place k hk) (fun _ hp j hj hne hgj => h.spots k j hk hj (Ne.symm hne) hg hgj hp)
  · rw [if_neg he]; exact h
theorem ok_do {M : Int} {L : List Pg} (h : Ok M L) (hM : 0 ≤ M) (r : Ac) : Ok (M + 1000) (doL L r) := by
  unfold doL
  split
  · exact (ok_make h hM _ _ _).more (by omega)
  · split
    · exact (ok_put h _ _ _).more (by omega)
    · split
      · exact ok_ref h _ _
      · split
        · exact (ok_drop h _).more (by omega)
        · split
          · exact (ok_own h _ _).more (by omega)
          · exact (ok_mark h _ _).more (by omega)

/-! ### what errs changes nothing -/
theorem make_err {L : List Pg} {f i : Int} (h : makeE L f i ≠ 0) (o : Int) : makeL L f i o = L := by
  unfold makeE at h
  unfold makeL
  by_cases hb : busyL L f i = true
  · rw [if_pos hb]
  · rw [if_neg hb] at h; exact absurd rfl h
theorem put_err {L : List Pg} {id p a : Int} (h : putE L id p a ≠ 0) : putL L id p a = L := if_neg h
theorem ref_err {L : List Pg} {id n : Int} (h : refE L id n ≠ 0) : refL L id n = L := if_neg h
theorem drop_err {L : List Pg} {id : Int} (h : dropE L id ≠ 0) : dropL L id = L := if_neg h
theorem own_err {L : List Pg} {id : Int} (h : getE L id ≠ 0) (o : Int) : ownL L id o = L := by
  unfold getE at h
  unfold ownL
  by_cases hb : has L id = true
  · rw [if_pos hb] at h; exact absurd rfl h
  · rw [if_neg hb]
theorem mark_err {L : List Pg} {id : Int} (h : getE L id ≠ 0) (d : Bool) : markL L id d = L := by
  unfold getE at h
  unfold markL
  by_cases hb : has L id = true
  · rw [if_pos hb] at h; exact absurd rfl h
  · rw [if_neg hb]
theorem do_err {L : List Pg} {r : Ac} (h : doE L r ≠ 0) : doL L r = L := by
  unfold doE at h
  unfold doL
  by_cases h0 : kd r = 0
  · rw [if_pos h0] at h ⊢; exact make_err h _
  · rw [if_neg h0] at h ⊢
    by_cases h1 : kd r = 1
    · rw [if_pos h1] at h ⊢; exact put_err h
    · rw [if_neg h1] at h ⊢
      by_cases h2 : kd r = 2
      · rw [if_pos h2] at h ⊢; exact ref_err h
      · rw [if_neg h2] at h ⊢
        by_cases h3 : kd r = 3
        · rw [if_pos h3] at h ⊢; exact drop_err h
        · rw [if_neg h3] at h ⊢
          by_cases h4 : kd r = 4
          · rw [if_pos h4]; exact own_err h _
          · rw [if_neg h4]; exact mark_err h _

/-! ### how many there are -/
theorem len_set (L : List Pg) (id : Int) (g : Pg → Pg) : (setL L id g).length = L.length := List.length_set ..
theorem len_make (L : List Pg) (f i o : Int) : (makeL L f i o).length = if makeE L f i = 0 then L.length + 1 else L.length := by
  unfold makeL makeE
  by_cases hb : busyL L f i = true
  · rw [if_pos hb, if_pos hb, if_neg (by decide)]
  · rw [if_neg hb, if_neg hb, if_pos rfl]; simp
theorem len_put (L : List Pg) (id p a : Int) : (putL L id p a).length = L.length := by
  unfold putL; split
  · exact len_set _ _ _
  · rfl
theorem len_ref (L : List Pg) (id n : Int) : (refL L id n).length = L.length := by
  unfold refL; split
  · exact len_set _ _ _
  · rfl
theorem len_drop (L : List Pg) (id : Int) : (dropL L id).length = L.length := by
  unfold dropL; split
  · exact len_set _ _ _
  · rfl
theorem len_own (L : List Pg) (id o : Int) : (ownL L id o).length = L.length := by
  unfold ownL; split
  · exact len_set _ _ _
  · rfl
theorem len_mark (L : List Pg) (id : Int) (d : Bool) : (markL L id d).length = L.length := by
  unfold markL; split
  · exact len_set _ _ _
  · rfl
theorem len_do (L : List Pg) (r : Ac) : (doL L r).length = if kd r = 0 ∧ doE L r = 0 then L.length + 1 else L.length := by
  by_cases h0 : kd r = 0
  · have e1 : doL L r = makeL L r.kf r.ki r.n := by unfold doL; rw [if_pos h0]
    have e2 : doE L r = makeE L r.kf r.ki := by unfold doE; rw [if_pos h0]
    rw [e1, e2, len_make]
    by_cases h1 : makeE L r.kf r.ki = 0
    · rw [if_pos h1, if_pos ⟨h0, h1⟩]
    · rw [if_neg h1, if_neg (fun h => h1 h.2)]
  · rw [if_neg (fun h => h0 h.1)]
    unfold doL
    rw [if_neg h0]
    split
    · exact len_put _ _ _ _
    · split
      · exact len_ref _ _ _
      · split
        · exact len_drop _ _
        · split
          · exact len_own _ _ _
          · exact len_mark _ _ _
theorem len_do_le (L : List Pg) (r : Ac) : (doL L r).length ≤ L.length + 1 := by
  rw [len_do]; split <;> omega

/-! ### who is found behind a call -/
theorem of_make {L : List Pg} {f i o : Int} (hb : busyL L f i = false) (f' i' : Int) : ofL (L ++ [newPg L.length f i o]) f' i' = if 0 ≤ f ∧ f' = f ∧ i' = i then (L.length : Int) else ofL L f' i' := by
  have hof : ofL L f i = -1 := by
    rcases of_cases L f i with e | ⟨k, -, e, -⟩
    · exact e
    · simp [busyL, e] at hb
  by_cases hf : 0 ≤ f'
  · have hx : keyP f' i' (newPg L.length f i o) = decide (0 ≤ f ∧ f' = f ∧ i' = i) := by
      rcases newPg_key L.length f i o with ⟨h1, h2, h3⟩ | ⟨h1, h2, h3⟩
      · have h4 := (newPg_f L.length f i o).1
        apply Bool.eq_iff_iff.2
        rw [keyP_iff, h2, h3, h4]
        rw [decide_eq_true_iff]
        constructor
        · intro h; exact ⟨h1, h.2.1.symm, h.2.2.symm⟩
        · intro h; exact ⟨rfl, h.2.1.symm, h.2.2.symm⟩
      · have h4 := (newPg_f L.length f i o).1
        apply Bool.eq_iff_iff.2
        rw [keyP_iff, h2, h3, h4]
        simp
        omega
    unfold ofL
    rw [if_pos hf, if_pos hf, fx_app, hx]
    by_cases hc : 0 ≤ f ∧ f' = f ∧ i' = i
    · obtain ⟨c1, rfl, rfl⟩ := hc
      unfold ofL at hof
      rw [if_pos hf] at hof
      rw [hof]
      simp [hf]
    · rw [if_neg hc]
      have := fx_bounds (keyP f' i') L
      by_cases h5 : 0 ≤ fx (keyP f' i') L
      · rw [if_pos h5]
      · rw [if_neg h5, if_neg (by simpa using hc)]
        omega
  · unfold ofL
    rw [if_neg hf, if_neg hf, if_neg (fun h => hf (by rw [h.2.1]; exact h.1))]
theorem at_make (L : List Pg) (n : Nat) (f i o p a : Int) : atL (L ++ [newPg n f i o]) p a = atL L p a := by
  unfold atL
  by_cases hp : p = 0
  · rw [if_pos hp, if_pos hp]
  · rw [if_neg hp, if_neg hp, fx_app]
    have hx : spotP p a (newPg n f i o) = false := by
      cases h : spotP p a (newPg n f i o) with
      | false => rfl
      | true =>
        rw [spotP_iff, (newPg_f n f i o).2.1] at h
        exact absurd h.2.1.symm hp
    rw [hx]
    have := fx_bounds (spotP p a) L
    by_cases h5 : 0 ≤ fx (spotP p a) L
    · rw [if_pos h5]
    · rw [if_neg h5, if_neg (by simp)]; omega
theorem of_set {L : List Pg} {k : Nat} (hk : k < L.length) (x : Pg) (h1 : x.gn = (pg L k).gn) (h2 : x.kf = (pg L k).kf) (h3 : x.ki = (pg L k).ki) (f i : Int) : ofL (L.set k x) f i = ofL L f i := by
  unfold ofL
  by_cases hf : 0 ≤ f
  · rw [if_pos hf, if_pos hf]
    refine fx_congr (by simp) fun j hj => ?_
    rw [pg_set hk]
    by_cases e : j = k
    · subst e; rw [if_pos rfl]; simp [keyP, h1, h2, h3]
    · rw [if_neg e]
  · rw [if_neg hf, if_neg hf]
theorem at_set {L : List Pg} {k : Nat} (hk : k < L.length) (x : Pg) (h1 : x.gn = (pg L k).gn) (h2 : x.pl = (pg L k).pl) (h3 : x.at' = (pg L k).at') (p a : Int) : atL (L.set k x) p a = atL L p a := by
  unfold atL
  by_cases hp : p = 0
  · rw [if_pos hp, if_pos hp]
  · rw [if_neg hp, if_neg hp]
    refine fx_congr (by simp) fun j hj => ?_
    rw [pg_set hk]
    by_cases e : j = k
    · subst e; rw [if_pos rfl]; simp [spotP, h1, h2, h3]
    · rw [if_neg e]
theorem of_drop {M : Int} {L : List Pg} (h : Ok M L) {k : Nat} (hk : k < L.length) (hg : (pg L k).gn = false) (f i : Int) : ofL (L.set k (dropG (pg L k))) f i = if f = (pg L k).kf ∧ i = (pg L k).ki then -1 else ofL L f i := by
  unfold ofL
  by_cases hf : 0 ≤ f
  · rw [if_pos hf, if_pos hf]
    by_cases hc : f = (pg L k).kf ∧ i = (pg L k).ki
    · rw [if_pos hc]
      refine fx_none fun j hj => ?_
      rw [List.length_set] at hj
      rw [pg_set hk]
      by_cases e : j = k
      · subst e; rw [if_pos rfl]; simp [keyP, dropG]
      · rw [if_neg e]
        cases hq : keyP f i (pg L j) with
        | false => rfl
        | true =>
          rw [keyP_iff] at hq
          exact absurd ⟨by rw [← hc.1, hq.2.1], by rw [← hc.2, hq.2.2]⟩ (h.keys k j hk hj (Ne.symm e) hg hq.1)
    · rw [if_neg hc]
      refine fx_congr (by simp) fun j hj => ?_
      rw [pg_set hk]
      by_cases e : j = k
      · subst e
        rw [if_pos rfl]
        cases hq : keyP f i (pg L j) with
        | false => simp [keyP, dropG]
        | true =>
          rw [keyP_iff] at hq
          exact absurd ⟨hq.2.1.symm, hq.2.2.symm⟩ hc
      · rw [if_neg e]
  · rw [if_neg hf, if_neg hf]
    split <;> rfl
theorem at_drop {L : List Pg} {k : Nat} (hk : k < L.length) (hp : (pg L k).pl = 0) (p a : Int) : atL (L.set k (dropG (pg L k))) p a = atL L p a := by
  unfold atL
  by_cases h0 : p = 0
  · rw [if_pos h0, if_pos h0]
  · rw [if_neg h0, if_neg h0]
    refine fx_congr (by simp) fun j hj => ?_
    rw [pg_set hk]
    by_cases e : j = k
    · subst e
      rw [if_pos rfl]
      cases hq : spotP p a (pg L j) with
      | false => simp [spotP, dropG]
      | true =>
        rw [spotP_iff] at hq
        exact absurd (hq.2.1.symm.trans hp) h0
    · rw [if_neg e]
theorem at_put {M : Int} {L : List Pg} (h : Ok M L) {k : Nat} {p a : Int} (he : putE L k p a = 0) (p' a' : Int) :
    atL (L.set k (putG p a (pg L k))) p' a' = if p' ≠ 0 ∧ p' = p ∧ a' = a then (k : Int) else if p' = (pg L k).pl ∧ a' = (pg L k).at' then -1 else atL L p' a' := by
  obtain ⟨h1, -, -⟩ := put_ok he
  rw [has_nat] at h1
  obtain ⟨hk, hg⟩ := h1
  unfold atL
  by_cases h0 : p' = 0
  · rw [if_pos h0, if_pos h0, if_neg (fun h => h.1 h0)]
    split <;> rfl
  · rw [if_neg h0, if_neg h0]
    by_cases hc : p' = p ∧ a' = a
    · obtain ⟨rfl, rfl⟩ := hc
      rw [if_pos ⟨h0, rfl, rfl⟩]
      refine fx_only (by simpa using hk) ?_ fun j hj hne => ?_
      · rw [pg_set hk, if_pos rfl, spotP_iff]; exact ⟨hg, rfl, rfl⟩
      · rw [List.length_set] at hj
        rw [pg_set hk, if_neg hne]
        cases hq : spotP p' a' (pg L j) with
        | false => rfl
        | true =>
          rw [spotP_iff] at hq
          exact absurd ⟨hq.2.1.symm, hq.2.2.symm⟩ (put_free h he h0 rfl hj hne hq.1)
    · rw [if_neg (fun h => hc h.2)]
      by_cases hd : p' = (pg L k).pl ∧ a' = (pg L k).at'
      · rw [if_pos hd]
        refine fx_none fun j hj => ?_
        rw [List.length_set] at hj
        rw [pg_set hk]
        by_cases e : j = k
        · subst e
          rw [if_pos rfl]
          cases hq : spotP p' a' (putG p a (pg L j)) with
          | false => rfl
          | true =>
            rw [spotP_iff] at hq
            exact absurd ⟨hq.2.1.symm, hq.2.2.symm⟩ hc
        · rw [if_neg e]
          cases hq : spotP p' a' (pg L j) with
          | false => rfl
          | true =>
            rw [spotP_iff] at hq
            exact absurd ⟨by rw [← hd.1, hq.2.1], by rw [← hd.2, hq.2.2]⟩ (h.spots k j hk hj (Ne.symm e) hg hq.1 (by rw [← hd.1]; exact h0))
      · rw [if_neg hd]
        refine fx_congr (by simp) fun j hj => ?_
        rw [pg_set hk]
        by_cases e : j = k
        · subst e
          rw [if_pos rfl]
          have q1 : spotP p' a' (putG p a (pg L j)) = false := by
            cases hq : spotP p' a' (putG p a (pg L j)) with
            | false => rfl
            | true =>
              rw [spotP_iff] at hq
              exact absurd ⟨hq.2.1.symm, hq.2.2.symm⟩ hc
          have q2 : spotP p' a' (pg L j) = false := by
            cases hq : spotP p' a' (pg L j) with
            | false => rfl
            | true =>
              rw [spotP_iff] at hq
              exact absurd ⟨hq.2.1.symm, hq.2.2.symm⟩ hd
          rw [q1, q2]
        · rw [if_neg e]

/-! ### a page behind a call -/
theorem getL_nat {L : List Pg} {k : Nat} (hk : k < L.length) (hg : (pg L k).gn = false) : getL L k = pg L k := by
  unfold getL
  rw [if_pos ((has_nat L k).2 ⟨hk, hg⟩)]
  simp
theorem getE_has {L : List Pg} {id : Int} : getE L id = 0 ↔ has L id = true := by
  unfold getE
  by_cases h : has L id = true
  · rw [if_pos h]; simp [h]
  · rw [if_neg h]; simp [h]
theorem has_set {L : List Pg} {k : Nat} (hk : k < L.length) (x : Pg) (id : Int) : has (L.set k x) id = if id = k then !x.gn else has L id := by
  by_cases e : id = k
  · subst e
    rw [if_pos rfl]
    apply Bool.eq_iff_iff.2
    rw [has_nat, List.length_set, pg_set hk, if_pos rfl]
    simp [hk]
  · rw [if_neg e]
    apply Bool.eq_iff_iff.2
    rw [has_iff, has_iff, List.length_set]
    constructor
    · intro ⟨h1, h2, h3⟩
      rw [pg_set hk, if_neg (by omega)] at h3
      exact ⟨h1, h2, h3⟩
    · intro ⟨h1, h2, h3⟩
      rw [pg_set hk, if_neg (by omega)]
      exact ⟨h1, h2, h3⟩
theorem get_set {L : List Pg} {k : Nat} (hk : k < L.length) (x : Pg) (id : Int) : getL (L.set k x) id = if id = k then (if x.gn then gone else x) else getL L id := by
  unfold getL
  rw [has_set hk]
  by_cases e : id = k
  · subst e
    rw [if_pos rfl, if_pos rfl]
    have hp : pg (L.set k x) (k : Int).toNat = x := by
      have : (k : Int).toNat = k := by omega
      rw [this, pg_set hk, if_pos rfl]
    rw [hp]
    cases x.gn <;> simp
  · rw [if_neg e, if_neg e]
    by_cases h : has L id = true
    · rw [if_pos h, if_pos h]
      obtain ⟨m, rfl, hm, -⟩ := has_nat' h
      have : ((m : Int)).toNat = m := by omega
      rw [this, pg_set hk, if_neg (by omega)]
    · rw [if_neg h, if_neg h]
/-- A page that is put is there; another one stays. -/
theorem get_put {L : List Pg} {id p a : Int} (h : putE L id p a = 0) (j : Int) : getL (putL L id p a) j = if j = id then putG p a (getL L id) else getL L j := by
  obtain ⟨h1, -, -⟩ := put_ok h
  obtain ⟨k, rfl, hk, hg⟩ := has_nat' h1
  unfold putL
  rw [if_pos h, setL_nat, get_set hk, getL_nat hk hg]
  have : (putG p a (pg L k)).gn = false := hg
  rw [this]
  simp
theorem get_own {L : List Pg} {id o : Int} (h : has L id = true) (j : Int) : getL (ownL L id o) j = if j = id then ownG o (getL L id) else getL L j := by
  obtain ⟨k, rfl, hk, hg⟩ := has_nat' h
  unfold ownL
  rw [if_pos h, setL_nat, get_set hk, getL_nat hk hg]
  have : (ownG o (pg L k)).gn = false := hg
  rw [this]
  simp
theorem get_mark {L : List Pg} {id : Int} {d : Bool} (h : has L id = true) (j : Int) : getL (markL L id d) j = if j = id then markG d (getL L id) else getL L j := by
  obtain ⟨k, rfl, hk, hg⟩ := has_nat' h
  unfold markL
  rw [if_pos h, setL_nat, get_set hk, getL_nat hk hg]
  have : (markG d (pg L k)).gn = false := hg
  rw [this]
  simp
theorem has_own {L : List Pg} {id : Int} (o : Int) (h : has L id = true) : has (ownL L id o) id = true := by
  obtain ⟨k, rfl, hk, hg⟩ := has_nat' h
  unfold ownL
  rw [if_pos h, setL_nat, has_set hk, if_pos rfl]
  show (!(pg L k).gn) = true
  rw [hg]; rfl
theorem get_drop {L : List Pg} {id : Int} (h : dropE L id = 0) : getE (dropL L id) id = 2 := by
  obtain ⟨h1, -, -⟩ := drop_ok h
  obtain ⟨k, rfl, hk, hg⟩ := has_nat' h1
  unfold dropL getE
  rw [if_pos h, setL_nat, has_set hk, if_pos rfl, if_neg (by simp [dropG])]
theorem get_none {L : List Pg} {id : Int} (h : getE L id ≠ 0) : getL L id = gone := by
  unfold getE at h
  unfold getL
  by_cases h1 : has L id = true
  · rw [if_pos h1] at h; exact absurd rfl h
  · rw [if_neg h1]
/-- PagesMoves: where it was no one is any more, if it moved. -/
theorem at_left {M : Int} {L : List Pg} (h : Ok M L) {id p a : Int} (he : putE L id p a = 0) (h0 : (getL L id).pl ≠ 0) (hm : ¬ ((getL L id).pl = p ∧ (getL L id).at' = a)) : atL (putL L id p a) (getL L id).pl (getL L id).at' = -1 := by
  obtain ⟨h1, -, -⟩ := put_ok he
  obtain ⟨k, rfl, hk, hg⟩ := has_nat' h1
  rw [getL_nat hk hg] at *
  unfold putL
  rw [if_pos he, setL_nat, at_put h he, if_neg (fun h => hm ⟨h.2.1, h.2.2⟩), if_pos ⟨rfl, rfl⟩]
theorem at_there {M : Int} {L : List Pg} (h : Ok M L) {id p a : Int} (he : putE L id p a = 0) (hp : p ≠ 0) : atL (putL L id p a) p a = id := by
  obtain ⟨h1, -, -⟩ := put_ok he
  obtain ⟨k, rfl, hk, hg⟩ := has_nat' h1
  unfold putL
  rw [if_pos he, setL_nat, at_put h he, if_pos ⟨hp, rfl, rfl⟩]

/-! ### ids -/
theorem idsN_zero (L : List Pg) (p : Pg → Bool) : idsN L p 0 = [] := rfl
theorem idsN_succ (L : List Pg) (p : Pg → Bool) (n : Nat) : idsN L p (n + 1) = if !(pg L n).gn && p (pg L n) then idsN L p n ++ [(n : Int)] else idsN L p n := by
  unfold idsN
  rw [List.range_succ, List.filter_append, List.map_append]
  by_cases h : (!(pg L n).gn && p (pg L n)) = true
  · rw [if_pos h]; simp [h]
  · rw [if_neg h]
    have h' : (!(pg L n).gn && p (pg L n)) = false := by simpa using h
    simp only [List.filter_cons, h', List.filter_nil]
    simp
theorem idsN_len (L : List Pg) (p : Pg → Bool) (n : Nat) : (idsN L p n).length ≤ n := by
  unfold idsN
  rw [List.length_map]
  exact Nat.le_trans (List.length_filter_le _ _) (by simp)
theorem idsL_len (L : List Pg) (p : Pg → Bool) : (idsL L p).length ≤ L.length := idsN_len L p _
theorem ids_mem (L : List Pg) (p : Pg → Bool) (n : Nat) (x : Int) : x ∈ idsN L p n ↔ ∃ k, k < n ∧ x = (k : Nat) ∧ (pg L k).gn = false ∧ p (pg L k) = true := by
  unfold idsN
  rw [List.mem_map]
  constructor
  · intro ⟨k, h1, h2⟩
    rw [List.mem_filter] at h1
    simp at h1
    exact ⟨k, h1.1, h2.symm, h1.2.1, h1.2.2⟩
  · intro ⟨k, h1, h2, h3, h4⟩
    exact ⟨k, by rw [List.mem_filter]; simp [h1, h3, h4], h2.symm⟩
theorem ids_rising (L : List Pg) (p : Pg → Bool) (n : Nat) : (idsN L p n).Pairwise (· < ·) := by
  unfold idsN
  rw [List.pairwise_map]
  refine List.Pairwise.imp ?_ (List.Pairwise.filter _ List.pairwise_lt_range)
  intro a b h
  omega
/-- The j-th id. -/
def idAt (L : List Pg) (p : Pg → Bool) (j : Nat) : Int := (idsL L p).getD j 0
theorem idAt_is {L : List Pg} {p : Pg → Bool} {j : Nat} (h : j < (idsL L p).length) : ∃ k, k < L.length ∧ idAt L p j = (k : Nat) ∧ (pg L k).gn = false ∧ p (pg L k) = true := by
  have : idAt L p j ∈ idsN L p L.length := by
    unfold idAt
    rw [List.getD_eq_getElem?_getD, List.getElem?_eq_getElem h]
    exact List.getElem_mem h
  exact (ids_mem L p _ _).1 this
theorem idAt_lt {L : List Pg} {p : Pg → Bool} {i j : Nat} (h : j < (idsL L p).length) (hij : i < j) : idAt L p i < idAt L p j := by
  have hi : i < (idsL L p).length := by omega
  unfold idAt
  rw [List.getD_eq_getElem?_getD, List.getD_eq_getElem?_getD, List.getElem?_eq_getElem h, List.getElem?_eq_getElem hi]
  exact List.pairwise_iff_getElem.1 (ids_rising L p L.length) i j hi h hij
/-- Who is there is found among its owner's. -/
theorem ids_find {L : List Pg} {p : Pg → Bool} {k : Nat} (hk : k < L.length) (hg : (pg L k).gn = false) (hp : p (pg L k) = true) : ∃ j, j < (idsL L p).length ∧ idAt L p j = k := by
  have h := (ids_mem L p L.length (k : Nat)).2 ⟨k, hk, rfl, hg, hp⟩
  obtain ⟨j, hj, e⟩ := List.getElem_of_mem h
  exact ⟨j, hj, by unfold idAt idsL; rw [List.getD_eq_getElem?_getD, List.getElem?_eq_getElem hj]; exact e⟩
end Go.Proofs.Ytponlldgnlckfaa
