/-
  Ids in groups, with ages, as a list by rising ids; what is added, dropped, touched, aged, moved, counted, and ordered, as functions of that list. No program is named here.
-/
namespace Go.Proofs.Ytfmgmelgfnppkaa

/-- An id, its group, its age. -/
structure En where
  i : Int
  g : Int
  a : Int
theorem En.eq {x y : En} (h1 : x.i = y.i) (h2 : x.g = y.g) (h3 : x.a = y.a) : x = y := by
  cases x; cases y; simp at h1 h2 h3; simp [h1, h2, h3]

abbrev top : Int := 16777216
def okI (x : Int) : Bool := decide (0 ≤ x) && decide (x ≤ top)
theorem okI_iff {x : Int} : okI x = true ↔ 0 ≤ x ∧ x ≤ 16777216 := by simp [okI]
theorem okI_not {x : Int} : okI x = false ↔ x < 0 ∨ 16777216 < x := by
  simp only [okI, Bool.and_eq_false_iff, decide_eq_false_iff_not, top]; omega

/-- Rising ids, each once. -/
def Srt (L : List En) : Prop := L.Pairwise (fun x y => x.i < y.i)
/-- What may stand in a list. -/
def Rng (x : En) : Prop := (0 ≤ x.i ∧ x.i ≤ 16777216) ∧ (0 ≤ x.g ∧ x.g ≤ 16777216) ∧ (0 ≤ x.a ∧ x.a ≤ 3)
structure Ok (L : List En) : Prop where
  srt : Srt L
  rng : ∀ x ∈ L, Rng x
theorem Ok.nil : Ok [] := ⟨List.Pairwise.nil, by simp⟩

/-- What is there at an id. -/
def lk (L : List En) (i : Int) : Option En := L.find? fun x => x.i == i
theorem lk_nil (i : Int) : lk [] i = none := rfl
theorem lk_some {L : List En} {i : Int} {x : En} (h : lk L i = some x) : x ∈ L ∧ x.i = i := by
  refine ⟨List.mem_of_find?_eq_some h, ?_⟩
  have := List.find?_some h
  simpa using this
theorem lk_none {L : List En} {i : Int} : lk L i = none ↔ ∀ x ∈ L, x.i ≠ i := by
  simp [lk]
theorem Srt.inj {L : List En} (h : Srt L) {x y : En} (hx : x ∈ L) (hy : y ∈ L) (he : x.i = y.i) : x = y := by
  induction L with
  | nil => simp at hx
  | cons a L ih =>
    obtain ⟨h1, h2⟩ := List.pairwise_cons.1 h
    rcases List.mem_cons.1 hx with ex | kx
    · rcases List.mem_cons.1 hy with ey | ky
      · rw [ex, ey]
      · have := h1 _ ky; rw [← ex] at this; omega
    · rcases List.mem_cons.1 hy with ey | ky
      · have := h1 _ kx; rw [← ey] at this; omega
      · exact ih h2 kx ky
theorem lk_iff {L : List En} (h : Srt L) {i : Int} {x : En} : lk L i = some x ↔ x ∈ L ∧ x.i = i := by
  refine ⟨lk_some, fun ⟨h1, h2⟩ => ?_⟩
  cases hq : lk L i with
  | none => exact absurd h2 (lk_none.1 hq x h1)
  | some y =>
    obtain ⟨h3, h4⟩ := lk_some hq
    rw [h.inj h3 h1 (h4.trans h2.symm)]
theorem lk_self {L : List En} (h : Srt L) {x : En} (hx : x ∈ L) : lk L x.i = some x := (lk_iff h).2 ⟨hx, rfl⟩
theorem Ok.lk {L : List En} (h : Ok L) {i : Int} {x : En} (hl : lk L i = some x) : Rng x ∧ x.i = i := ⟨h.rng x (lk_some hl).1, (lk_some hl).2⟩
theorem Ok.out {L : List En} (h : Ok L) {i : Int} (hi : okI i = false) : Ytfmgmelgfnppkaa.lk L i = none := by
  refine lk_none.2 fun x hx e => ?_
  obtain ⟨⟨h1, h2⟩, _⟩ := h.rng x hx
  rw [okI_not] at hi
  omega

/-- Two lists by rising ids with the same members are one. -/
theorem srt_ext : ∀ {L M : List En}, Srt L → Srt M → (∀ x, x ∈ L ↔ x ∈ M) → L = M
  | [], [], _, _, _ => rfl
  | [], y :: M, _, _, h => by have := (h y).2 (by simp); simp at this
  | x :: L, [], _, _, h => by have := (h x).1 (by simp); simp at this
  | x :: L, y :: M, h1, h2, h => by
    obtain ⟨a1, a2⟩ := List.pairwise_cons.1 h1
    obtain ⟨b1, b2⟩ := List.pairwise_cons.1 h2
    have e : x = y := by
      rcases List.mem_cons.1 ((h x).1 (by simp)) with e | hx
      · exact e
      · rcases List.mem_cons.1 ((h y).2 (by simp)) with e | hy
        · exact e.symm
        · have := a1 y hy; have := b1 x hx; omega
    subst e
    rw [srt_ext a2 b2 fun z => ?_]
    constructor
    · intro hz
      rcases List.mem_cons.1 ((h z).1 (by simp [hz])) with rfl | hz'
      · have := a1 _ hz; omega
      · exact hz'
    · intro hz
      rcases List.mem_cons.1 ((h z).2 (by simp [hz])) with rfl | hz'
      · have := b1 _ hz; omega
      · exact hz'
theorem lk_ext {L M : List En} (h1 : Srt L) (h2 : Srt M) (h : ∀ i, lk L i = lk M i) : L = M :=
  srt_ext h1 h2 fun x => by
    constructor
    · intro hx
      exact (lk_some ((h x.i) ▸ lk_self h1 hx)).1
    · intro hx
      exact (lk_some ((h x.i).symm ▸ lk_self h2 hx)).1

/-! ### Add -/
/-- Put at its place. -/
def ins (x : En) (L : List En) : List En := (L.filter fun y => decide (y.i < x.i)) ++ x :: L.filter fun y => decide (x.i < y.i)
theorem ins_mem {x : En} {L : List En} (h : lk L x.i = none) (z : En) : z ∈ ins x L ↔ z = x ∨ z ∈ L := by
  have hn := lk_none.1 h
  simp only [ins, List.mem_append, List.mem_filter, List.mem_cons, decide_eq_true_eq]
  constructor
  · rintro (⟨h, _⟩ | rfl | ⟨h, _⟩)
    · exact Or.inr h
    · exact Or.inl rfl
    · exact Or.inr h
  · rintro (rfl | h)
    · exact Or.inr (Or.inl rfl)
    · have := hn z h
      rcases Int.lt_or_gt_of_ne this with h' | h'
      · exact Or.inl ⟨h, h'⟩
      · exact Or.inr (Or.inr ⟨h, h'⟩)
theorem ins_srt {x : En} {L : List En} (h : Srt L) : Srt (ins x L) := by
  unfold Srt ins
  rw [List.pairwise_append, List.pairwise_cons]
  refine ⟨h.filter _, ⟨fun y hy => by simpa using (List.mem_filter.1 hy).2, h.filter _⟩, fun a ha b hb => ?_⟩
  have ha := (List.mem_filter.1 ha).2
  simp at ha
  rcases List.mem_cons.1 hb with rfl | hb
  · exact ha
  · have hb := (List.mem_filter.1 hb).2
    simp at hb
    omega
theorem ins_len {x : En} : ∀ {L : List En}, lk L x.i = none → (ins x L).length = L.length + 1 := by
  intro L h
  have hn := lk_none.1 h
  have : ∀ M : List En, (∀ y ∈ M, y.i ≠ x.i) → (M.filter fun y => decide (y.i < x.i)).length + (M.filter fun y => decide (x.i < y.i)).length = M.length := by
    intro M hM
    induction M with
    | nil => rfl
    | cons a M ih =>
      have i1 := ih fun y hy => hM y (by simp [hy])
      have i2 := hM a (by simp)
      by_cases h1 : a.i < x.i
      · have h2 : ¬ x.i < a.i := by omega
        simp only [List.filter_cons, h1, h2, decide_true, decide_false, if_true, List.length_cons]
        simp; omega
      · have h2 : x.i < a.i := by omega
        simp only [List.filter_cons, h1, h2, decide_true, decide_false, if_true, List.length_cons]
        simp; omega
  have := this L hn
  simp only [ins, List.length_append, List.length_cons]
  omega
theorem ins_lk {x : En} {L : List En} (hs : Srt L) (h : lk L x.i = none) (i : Int) : lk (ins x L) i = if i = x.i then some x else lk L i := by
  by_cases hi : i = x.i
  · rw [if_pos hi, hi]
    exact lk_self (ins_srt hs) ((ins_mem h x).2 (Or.inl rfl))
  · rw [if_neg hi]
    cases hq : lk L i with
    | none =>
      refine lk_none.2 fun y hy e => ?_
      rcases (ins_mem h y).1 hy with rfl | hy
      · exact hi e.symm
      · exact lk_none.1 hq y hy e
    | some y =>
      obtain ⟨h1, h2⟩ := lk_some hq
      exact (lk_iff (ins_srt hs)).2 ⟨(ins_mem h y).2 (Or.inr h1), h2⟩
/-- What an Add answers. -/
def addE (L : List En) (i g : Int) : Int := if (okI i && okI g) = false then 1 else if (lk L i).isSome then 4 else 0
def addL (L : List En) (i g : Int) (o : Bool) : List En := if addE L i g = 0 then ins ⟨i, g, if o then 1 else 0⟩ L else L
theorem addE_zero {L : List En} {i g : Int} : addE L i g = 0 ↔ (okI i && okI g) = true ∧ lk L i = none := by
  unfold addE
  cases h : (okI i && okI g) <;> cases h' : lk L i <;> simp
theorem addE_cases (L : List En) (i g : Int) : addE L i g = 0 ∨ addE L i g = 1 ∨ addE L i g = 4 := by
  unfold addE
  split
  · simp
  · split <;> simp
theorem addL_ok {L : List En} (h : Ok L) (i g : Int) (o : Bool) : Ok (addL L i g o) := by
  unfold addL
  split
  · rename_i he
    obtain ⟨h1, h2⟩ := addE_zero.1 he
    simp only [Bool.and_eq_true, okI_iff] at h1
    refine ⟨ins_srt h.srt, fun x hx => ?_⟩
    rcases (ins_mem (x := ⟨i, g, if o then 1 else 0⟩) h2 x).1 hx with rfl | hx
    · exact ⟨h1.1, h1.2, by cases o <;> simp⟩
    · exact h.rng x hx
  · exact h
theorem addL_len (L : List En) (i g : Int) (o : Bool) : (addL L i g o).length ≤ L.length + 1 := by
  unfold addL
  split
  · rename_i he
    obtain ⟨h1, h2⟩ := addE_zero.1 he
    rw [ins_len (by exact h2)]
    exact Nat.le_refl _
  · omega
theorem addL_lk {L : List En} (h : Ok L) {i g : Int} (o : Bool) (he : addE L i g = 0) (j : Int) : lk (addL L i g o) j = if j = i then some ⟨i, g, if o then 1 else 0⟩ else lk L j := by
  unfold addL
  rw [if_pos he]
  exact ins_lk h.srt (addE_zero.1 he).2 j

/-! ### a turn of some: Touch, Age, Move -/
/-- Each one turned so, its id the same. -/
def turn (f : En → En) (L : List En) : List En := L.map f
theorem turn_srt {f : En → En} (hf : ∀ x, (f x).i = x.i) {L : List En} (h : Srt L) : Srt (turn f L) := by
  unfold Srt turn
  rw [List.pairwise_map]
  exact h.imp fun {a b} hab => by rw [hf, hf]; exact hab
theorem turn_lk {f : En → En} (hf : ∀ x, (f x).i = x.i) (L : List En) (i : Int) : lk (turn f L) i = (lk L i).map f := by
  unfold lk turn
  rw [List.find?_map]
  congr 1
  congr 1
  funext x
  simp [hf]
theorem turn_len (f : En → En) (L : List En) : (turn f L).length = L.length := List.length_map ..

def noneE (L : List En) (i : Int) : Int := if (lk L i).isSome then 0 else 2
/-- Touch. -/
def tou (i : Int) (x : En) : En := if x.i = i then { x with a := 0 } else x
theorem tou_i (i : Int) (x : En) : (tou i x).i = x.i := by unfold tou; split <;> rfl
theorem tou_g (i : Int) (x : En) : (tou i x).g = x.g := by unfold tou; split <;> rfl
theorem tou_rng {i : Int} {x : En} (h : Rng x) : Rng (tou i x) := by
  unfold tou
  split
  · exact ⟨h.1, h.2.1, by simp⟩
  · exact h
def touchL (L : List En) (i : Int) : List En := turn (tou i) L
theorem touchL_ok {L : List En} (h : Ok L) (i : Int) : Ok (touchL L i) :=
  ⟨turn_srt (tou_i i) h.srt, fun x hx => by obtain ⟨y, hy, rfl⟩ := List.mem_map.1 hx; exact tou_rng (h.rng y hy)⟩
theorem touchL_lk (L : List En) (i j : Int) : lk (touchL L i) j = (lk L j).map (tou i) := turn_lk (tou_i i) L j
theorem touchL_none {L : List En} {i : Int} (h : lk L i = none) : touchL L i = L := by
  have hn := lk_none.1 h
  unfold touchL turn
  conv => rhs; rw [← List.map_id L]
  refine List.map_congr_left fun x hx => ?_
  simp [tou, hn x hx]

/-- Age. -/
def old (g : Int) (x : En) : Bool := x.g == g && decide (x.a < 3)
def age (g : Int) (x : En) : En := if old g x then { x with a := x.a + 1 } else x
theorem age_i (g : Int) (x : En) : (age g x).i = x.i := by unfold age; split <;> rfl
theorem age_g (g : Int) (x : En) : (age g x).g = x.g := by unfold age; split <;> rfl
theorem age_rng {g : Int} {x : En} (h : Rng x) : Rng (age g x) := by
  unfold age
  split
  · rename_i ho
    simp only [old, Bool.and_eq_true, decide_eq_true_eq] at ho
    obtain ⟨h1, h2, h3⟩ := h
    exact ⟨h1, h2, by constructor <;> simp only <;> omega⟩
  · exact h
def ageL (L : List En) (g : Int) : List En := turn (age g) L
def ageN (L : List En) (g : Int) : Nat := L.countP (old g)
theorem ageL_ok {L : List En} (h : Ok L) (g : Int) : Ok (ageL L g) :=
  ⟨turn_srt (age_i g) h.srt, fun x hx => by obtain ⟨y, hy, rfl⟩ := List.mem_map.1 hx; exact age_rng (h.rng y hy)⟩
theorem ageL_lk (L : List En) (g j : Int) : lk (ageL L g) j = (lk L j).map (age g) := turn_lk (age_i g) L j

/-- Move. -/
def may (f t : Int) : Bool := okI t && decide (f ≠ t)
def mv (f t : Int) (x : En) : En := if x.g = f then { x with g := t } else x
theorem mv_i (f t : Int) (x : En) : (mv f t x).i = x.i := by unfold mv; split <;> rfl
theorem mv_a (f t : Int) (x : En) : (mv f t x).a = x.a := by unfold mv; split <;> rfl
theorem mv_rng {f t : Int} (ht : okI t = true) {x : En} (h : Rng x) : Rng (mv f t x) := by
  unfold mv
  split
  · exact ⟨h.1, by simpa using okI_iff.1 ht, h.2.2⟩
  · exact h
def moveL (L : List En) (f t : Int) : List En := if may f t then turn (mv f t) L else L
def cntL (L : List En) (g : Int) : Nat := L.countP fun x => x.g == g
def moveN (L : List En) (f t : Int) : Nat := if may f t then cntL L f else 0
theorem moveL_ok {L : List En} (h : Ok L) (f t : Int) : Ok (moveL L f t) := by
  unfold moveL
  split
  · rename_i hm
    simp only [may, Bool.and_eq_true] at hm
    exact ⟨turn_srt (mv_i f t) h.srt, fun x hx => by obtain ⟨y, hy, rfl⟩ := List.mem_map.1 hx; exact mv_rng hm.1 (h.rng y hy)⟩
  · exact h
theorem moveL_lk (L : List En) {f t : Int} (hm : may f t = true) (j : Int) : lk (moveL L f t) j = (lk L j).map (mv f t) := by
  unfold moveL
  rw [if_pos hm]
  exact turn_lk (mv_i f t) L j
theorem moveL_len (L : List En) (f t : Int) : (moveL L f t).length = L.length := by
  unfold moveL
  split
  · exact turn_len _ _
  · rfl

/-! ### Drop -/
def dropL (L : List En) (i : Int) : List En := L.filter fun x => x.i != i
theorem dropL_ok {L : List En} (h : Ok L) (i : Int) : Ok (dropL L i) :=
  ⟨h.srt.filter _, fun x hx => h.rng x (List.mem_filter.1 hx).1⟩
theorem dropL_lk (L : List En) (i j : Int) : lk (dropL L i) j = if j = i then none else lk L j := by
  by_cases h : j = i
  · rw [if_pos h]
    refine lk_none.2 fun x hx e => ?_
    have := (List.mem_filter.1 hx).2
    simp [e, h] at this
  · rw [if_neg h]
    unfold lk dropL
    rw [List.find?_filter]
    congr 1
    funext x
    by_cases hx : x.i = j
    · simp [hx, h]
    · simp [hx]
theorem dropL_none {L : List En} {i : Int} (h : lk L i = none) : dropL L i = L := by
  have hn := lk_none.1 h
  unfold dropL
  rw [List.filter_eq_self]
  intro x hx
  simp [hn x hx]
theorem dropL_len (L : List En) (i : Int) : (dropL L i).length ≤ L.length := List.length_filter_le ..
theorem dropL_count {L : List En} (hs : Srt L) {i : Int} {x : En} (hl : lk L i = some x) (p : En → Bool) : (dropL L i).countP p + (if p x then 1 else 0) = L.countP p := by
  induction L with
  | nil => simp [lk] at hl
  | cons a L ih =>
    obtain ⟨h1, h2⟩ := List.pairwise_cons.1 hs
    by_cases ha : a.i = i
    · have hax : a = x := by
        have : lk (a :: L) i = some a := by simp [lk, ha]
        rw [this] at hl
        exact Option.some.inj hl
      subst hax
      have hr : dropL (a :: L) i = L := by
        have hn : lk L i = none := lk_none.2 fun y hy e => by have := h1 y hy; omega
        have h3 := dropL_none hn
        unfold dropL at h3 ⊢
        rw [List.filter_cons_of_neg (by simp [ha]), h3]
      rw [hr, List.countP_cons]
    · have hl' : lk L i = some x := by
        rw [← hl]
        unfold lk
        rw [List.find?_cons_of_neg (by simp [ha])]
      have hr : dropL (a :: L) i = a :: dropL L i := by
        unfold dropL
        rw [List.filter_cons_of_pos (by simp [ha])]
      rw [hr, List.countP_cons, List.countP_cons]
      have := ih h2 hl'
      omega

/-! ### Order -/
/-- Is it in any of the groups? -/
def inG (G : List Int) (x : En) : Bool := G.any fun g => g == x.g
theorem inG_iff {G : List Int} {x : En} : inG G x = true ↔ x.g ∈ G := by
  simp [inG]
def ordA (L : List En) (G : List Int) (a : Int) : List En := L.filter fun x => inG G x && x.a == a
/-- The oldest first, of one age the least id. -/
def ordL (L : List En) (G : List Int) : List En := ordA L G 3 ++ (ordA L G 2 ++ (ordA L G 1 ++ ordA L G 0))
/-- One comes ahead of another one. -/
def ahead (x y : En) : Prop := y.a < x.a ∨ x.a = y.a ∧ x.i < y.i
theorem ordA_mem {L : List En} {G : List Int} {a : Int} {x : En} : x ∈ ordA L G a ↔ x ∈ L ∧ inG G x = true ∧ x.a = a := by
  simp [ordA]
theorem ordL_mem {L : List En} (h : Ok L) {G : List Int} {x : En} : x ∈ ordL L G ↔ x ∈ L ∧ inG G x = true := by
  simp only [ordL, List.mem_append, ordA_mem]
  constructor
  · rintro (h | h | h | h) <;> exact ⟨h.1, h.2.1⟩
  · rintro ⟨h1, h2⟩
    obtain ⟨_, _, h3, h4⟩ := h.rng x h1
    have : x.a = 3 ∨ x.a = 2 ∨ x.a = 1 ∨ x.a = 0 := by omega
    rcases this with e | e | e | e
    · exact Or.inl ⟨h1, h2, e⟩
    · exact Or.inr (Or.inl ⟨h1, h2, e⟩)
    · exact Or.inr (Or.inr (Or.inl ⟨h1, h2, e⟩))
    · exact Or.inr (Or.inr (Or.inr ⟨h1, h2, e⟩))
theorem ordA_ahead {L : List En} (h : Srt L) (G : List Int) (a : Int) : (ordA L G a).Pairwise ahead :=
  (h.filter _).imp_of_mem fun hx hy hxy => Or.inr ⟨(ordA_mem.1 hx).2.2.trans (ordA_mem.1 hy).2.2.symm, hxy⟩
theorem ordL_ahead {L : List En} (h : Srt L) (G : List Int) : (ordL L G).Pairwise ahead := by
  unfold ordL
  rw [List.pairwise_append, List.pairwise_append, List.pairwise_append]
  refine ⟨ordA_ahead h G 3, ⟨ordA_ahead h G 2, ⟨ordA_ahead h G 1, ordA_ahead h G 0, ?_⟩, ?_⟩, ?_⟩
  · intro x hx y hy
    have := (ordA_mem.1 hx).2.2; have := (ordA_mem.1 hy).2.2
    left; omega
  · intro x hx y hy
    have := (ordA_mem.1 hx).2.2
    left
    rcases List.mem_append.1 hy with hy | hy <;> (have := (ordA_mem.1 hy).2.2; omega)
  · intro x hx y hy
    have := (ordA_mem.1 hx).2.2
    left
    rcases List.mem_append.1 hy with hy | hy
    · have := (ordA_mem.1 hy).2.2; omega
    · rcases List.mem_append.1 hy with hy | hy <;> (have := (ordA_mem.1 hy).2.2; omega)
theorem ahead_asymm {x y : En} (h : ahead x y) : ¬ ahead y x := by
  rintro (h' | h') <;> rcases h with h | h <;> omega
theorem ahead_irrefl (x : En) : ¬ ahead x x := by
  rintro (h | h) <;> omega
/-- Two lists in that order with the same members are one. -/
theorem ahead_ext : ∀ {L M : List En}, L.Pairwise ahead → M.Pairwise ahead → (∀ x, x ∈ L ↔ x ∈ M) → L = M
  | [], [], _, _, _ => rfl
  | [], y :: M, _, _, h => by have := (h y).2 (by simp); simp at this
  | x :: L, [], _, _, h => by have := (h x).1 (by simp); simp at this
  | x :: L, y :: M, h1, h2, h => by
    obtain ⟨a1, a2⟩ := List.pairwise_cons.1 h1
    obtain ⟨b1, b2⟩ := List.pairwise_cons.1 h2
    have e : x = y := by
      rcases List.mem_cons.1 ((h x).1 (by simp)) with e | hx
      · exact e
      · rcases List.mem_cons.1 ((h y).2 (by simp)) with e | hy
        · exact e.symm
        · exact absurd (a1 y hy) (ahead_asymm (b1 x hx))
    subst e
    rw [ahead_ext a2 b2 fun z => ?_]
    constructor
    · intro hz
      rcases List.mem_cons.1 ((h z).1 (by simp [hz])) with rfl | hz'
      · exact absurd (a1 _ hz) (ahead_irrefl _)
      · exact hz'
    · intro hz
      rcases List.mem_cons.1 ((h z).2 (by simp [hz])) with rfl | hz'
      · exact absurd (b1 _ hz) (ahead_irrefl _)
      · exact hz'
theorem ordL_unique {L : List En} (h : Ok L) {G : List Int} {M : List En} (h1 : M.Pairwise ahead) (h2 : ∀ x, x ∈ M ↔ x ∈ L ∧ inG G x = true) : M = ordL L G :=
  ahead_ext h1 (ordL_ahead h.srt G) fun x => by rw [h2, ordL_mem h]
theorem ordL_nodup {L : List En} (h : Srt L) (G : List Int) : (ordL L G).Nodup := (ordL_ahead h G).imp fun {a b} (hxy : ahead a b) (e : a = b) => ahead_irrefl b (e ▸ hxy)
theorem Srt.nodup {L : List En} (h : Srt L) : L.Nodup := h.imp fun hxy e => by subst e; omega
theorem ordL_perm {L : List En} (h : Ok L) (G : List Int) : (ordL L G).Perm (L.filter (inG G)) := by
  refine (List.perm_ext_iff_of_nodup (ordL_nodup h.srt G) (h.srt.nodup.filter _)).2 fun x => ?_
  rw [ordL_mem h, List.mem_filter]
theorem ordL_len {L : List En} (h : Ok L) (G : List Int) : (ordL L G).length = L.countP (inG G) := by
  rw [(ordL_perm h G).length_eq, List.countP_eq_length_filter]

/-! ### counts -/
theorem cnt_turn (f : En → En) (p : En → Bool) (L : List En) : (turn f L).countP p = L.countP fun x => p (f x) := by
  unfold turn
  rw [List.countP_map]
  rfl
/-- One more group: those of it, if it is a new one. -/
theorem inG_more (G : List Int) (g : Int) : ∀ L : List En, L.countP (inG (G ++ [g])) = L.countP (inG G) + if g ∈ G then 0 else cntL L g
  | [] => by simp [cntL]
  | a :: L => by
    have ih := inG_more G g L
    unfold cntL at ih ⊢
    rw [List.countP_cons, List.countP_cons, List.countP_cons, ih]
    have e0 : inG (G ++ [g]) a = (inG G a || g == a.g) := by simp [inG]
    rw [e0]
    by_cases hg : g ∈ G
    · simp only [if_pos hg]
      by_cases hga : g = a.g
      · have : inG G a = true := inG_iff.2 (hga ▸ hg)
        simp [this]
      · simp [hga]
    · simp only [if_neg hg]
      by_cases hga : g = a.g
      · have e2 : inG G a = false := by
          rw [Bool.eq_false_iff]
          intro h
          exact hg (hga ▸ inG_iff.1 h)
        simp [e2, hga]
        omega
      · have e3 : (a.g == g) = false := by simp; exact fun e => hga e.symm
        simp [hga, e3]
        omega

/-! ### a loop over all of them, in whatever order: lf tells what is still to come -/
/-- How many have come of which p says yes. -/
def cameN (L : List En) (p : En → Bool) (lf : Int → Bool) : Nat := L.countP fun y => p y && !lf y.i
/-- Their ids. -/
def cameL (L : List En) (p : En → Bool) (lf : Int → Bool) : List Int := (L.filter fun y => p y && !lf y.i).map (·.i)
/-- One more has come. -/
def less (lf : Int → Bool) (i : Int) : Int → Bool := fun j => lf j && !(j == i)
theorem came_filter {L : List En} (hs : Srt L) {p : En → Bool} {lf : Int → Bool} {x : En} (hx : x ∈ L) (hl : lf x.i = true) :
    (L.filter fun y => p y && !less lf x.i y.i).Perm ((L.filter fun y => p y && !lf y.i) ++ if p x then [x] else []) := by
  have hn : ∀ q : En → Bool, (L.filter q).Nodup := fun q => hs.nodup.filter q
  have hx0 : x ∉ L.filter fun y => p y && !lf y.i := by simp [hl]
  have hr : ((L.filter fun y => p y && !lf y.i) ++ if p x then [x] else []).Nodup := by
    split
    · rw [List.nodup_append]
      refine ⟨hn _, by simp, fun a ha b hb e => ?_⟩
      rw [List.mem_singleton] at hb
      exact hx0 (hb ▸ e ▸ ha)
    · simpa using hn _
  refine (List.perm_ext_iff_of_nodup (hn _) hr).2 fun y => ?_
  rw [List.mem_filter, List.mem_append, List.mem_filter]
  by_cases hy : y.i = x.i
  · constructor
    · rintro ⟨h1, h2⟩
      have := hs.inj h1 hx hy
      subst this
      simp only [Bool.and_eq_true] at h2
      exact Or.inr (by simp [h2.1])
    · rintro (⟨h1, h2⟩ | h)
      · have := hs.inj h1 hx hy
        subst this
        simp [hl] at h2
      · split at h
        · rw [List.mem_singleton] at h
          subst h
          rename_i hp
          exact ⟨hx, by simp [hp, less]⟩
        · simp at h
  · have e : less lf x.i y.i = lf y.i := by simp [less, hy]
    rw [e]
    constructor
    · exact Or.inl
    · rintro (h | h)
      · exact h
      · split at h
        · rw [List.mem_singleton] at h
          exact absurd (h ▸ rfl) hy
        · simp at h
theorem cameN_step {L : List En} (hs : Srt L) (p : En → Bool) {lf : Int → Bool} {x : En} (hx : x ∈ L) (hl : lf x.i = true) :
    cameN L p (less lf x.i) = cameN L p lf + if p x then 1 else 0 := by
  unfold cameN
  rw [List.countP_eq_length_filter, List.countP_eq_length_filter, (came_filter hs hx hl).length_eq, List.length_append]
  split <;> simp
theorem cameL_step {L : List En} (hs : Srt L) (p : En → Bool) {lf : Int → Bool} {x : En} (hx : x ∈ L) (hl : lf x.i = true) {C : List Int} (hC : C.Perm (cameL L p lf)) :
    (if p x then C ++ [x.i] else C).Perm (cameL L p (less lf x.i)) := by
  have h := (came_filter hs (p := p) hx hl).map (·.i)
  unfold cameL at hC ⊢
  rw [List.map_append] at h
  refine List.Perm.trans ?_ h.symm
  split
  · exact hC.append (List.Perm.refl _)
  · simpa using hC
theorem cameN_start {L : List En} {p : En → Bool} {lf : Int → Bool} (h : ∀ y ∈ L, lf y.i = true) : cameN L p lf = 0 := by
  unfold cameN
  rw [List.countP_eq_zero]
  intro y hy
  simp [h y hy]
theorem cameL_start {L : List En} {p : En → Bool} {lf : Int → Bool} (h : ∀ y ∈ L, lf y.i = true) : cameL L p lf = [] := by
  unfold cameL
  rw [List.map_eq_nil_iff, List.filter_eq_nil_iff]
  intro y hy
  simp [h y hy]
theorem cameN_end {L : List En} {p : En → Bool} {lf : Int → Bool} (h : ∀ y ∈ L, lf y.i = false) : cameN L p lf = L.countP p := by
  unfold cameN
  refine List.countP_congr fun y hy => ?_
  simp [h y hy]
theorem cameL_end {L : List En} {p : En → Bool} {lf : Int → Bool} (h : ∀ y ∈ L, lf y.i = false) : cameL L p lf = (L.filter p).map (·.i) := by
  unfold cameL
  congr 1
  refine List.filter_congr fun y hy => ?_
  simp [h y hy]
theorem cameN_le (L : List En) (p : En → Bool) (lf : Int → Bool) : cameN L p lf ≤ L.length := List.countP_le_length ..

/-! ### what was sorted -/
/-- Does one id come ahead of another one? -/
def lt (L : List En) (i j : Int) : Bool := match lk L i, lk L j with
  | some x, some y => decide (y.a < x.a) || (decide (x.a = y.a) && decide (x.i < y.i))
  | _, _ => false
theorem lt_iff {L : List En} (hs : Srt L) {x y : En} (hx : x ∈ L) (hy : y ∈ L) : lt L x.i y.i = true ↔ ahead x y := by
  unfold lt ahead
  rw [lk_self hs hx, lk_self hs hy]
  simp
theorem ahead_total {L : List En} (hs : Srt L) {x y : En} (hx : x ∈ L) (hy : y ∈ L) (hne : x ≠ y) (h : ¬ ahead y x) : ahead x y := by
  unfold ahead at h ⊢
  by_cases hi : x.i = y.i
  · exact absurd (hs.inj hx hy hi) hne
  · omega
/-- Ids that were told in whatever order, and sorted: they are the document's row. -/
theorem ord_of_sorted {L : List En} (h : Ok L) (G : List Int) {M : List Int} (hp : M.Perm ((L.filter (inG G)).map (·.i))) (hs : M.Pairwise fun i j => lt L j i = false) : M = (ordL L G).map (·.i) := by
  obtain ⟨N, hN, hM⟩ : ∃ N : List En, N.Perm (L.filter (inG G)) ∧ N.map (·.i) = M := by
    have hmem : ∀ i ∈ M, ∃ x, x ∈ L ∧ x.i = i := fun i hi => by
      obtain ⟨x, hx, hxi⟩ := List.mem_map.1 (hp.mem_iff.1 hi)
      exact ⟨x, (List.mem_filter.1 hx).1, hxi⟩
    refine ⟨M.filterMap (lk L), ?_, ?_⟩
    · have h1 : ((L.filter (inG G)).map (·.i)).filterMap (lk L) = L.filter (inG G) := by
        rw [List.filterMap_map]
        have h2 : ∀ K : List En, (∀ x ∈ K, x ∈ L) → K.filterMap ((lk L) ∘ (·.i)) = K := by
          intro K hK
          induction K with
          | nil => rfl
          | cons a K ih =>
            rw [List.filterMap_cons]
            simp only [Function.comp]
            rw [lk_self h.srt (hK a (by simp))]
            simp only
            rw [ih fun x hx => hK x (by simp [hx])]
        exact h2 _ fun x hx => (List.mem_filter.1 hx).1
      rw [← h1]
      exact hp.filterMap _
    · clear hp hs
      induction M with
      | nil => rfl
      | cons a M ih =>
        obtain ⟨x, hx, rfl⟩ := hmem a (by simp)
        rw [List.filterMap_cons, lk_self h.srt hx]
        simp only [List.map_cons]
        rw [ih fun i hi => hmem i (by simp [hi])]
  subst hM
  rw [ordL_unique h (M := N) (G := G) ?_ fun x => by rw [hN.mem_iff, List.mem_filter]]
  have hnd : N.Nodup := hN.nodup_iff.2 (h.srt.nodup.filter _)
  have hin : ∀ x ∈ N, x ∈ L := fun x hx => (List.mem_filter.1 (hN.mem_iff.1 hx)).1
  rw [List.pairwise_map] at hs
  refine (hs.and hnd).imp_of_mem fun {x y} hx hy hxy => ?_
  have hxL := hin x hx
  have hyL := hin y hy
  refine ahead_total h.srt hxL hyL hxy.2 fun hyx => ?_
  rw [(lt_iff h.srt hyL hxL).2 hyx] at hxy
  exact absurd hxy.1 (by simp)

/-! ### what the laws want -/
theorem inG_turn {f : En → En} (hf : ∀ x, (f x).g = x.g) (L : List En) (G : List Int) : (turn f L).countP (inG G) = L.countP (inG G) := by
  rw [cnt_turn]
  refine List.countP_congr fun x _ => ?_
  simp [inG, hf]
theorem cnt_age (L : List En) (g h : Int) : cntL (ageL L g) h = cntL L h := by
  unfold cntL ageL
  rw [cnt_turn]
  refine List.countP_congr fun x _ => ?_
  simp [age_g]
theorem cnt_touch (L : List En) (i h : Int) : cntL (touchL L i) h = cntL L h := by
  unfold cntL touchL
  rw [cnt_turn]
  refine List.countP_congr fun x _ => ?_
  simp [tou_g]
theorem age_a (g : Int) (x : En) : (age g x).a = if old g x then x.a + 1 else x.a := by unfold age; split <;> rfl
theorem age3 {g : Int} {x : En} (h : Rng x) : (age g (age g (age g x))).a = if x.g = g then 3 else x.a := by
  obtain ⟨_, _, h1, h2⟩ := h
  have : x.a = 0 ∨ x.a = 1 ∨ x.a = 2 ∨ x.a = 3 := by omega
  by_cases hg : x.g = g
  · rw [if_pos hg]
    rcases this with e | e | e | e <;> simp [age, old, hg, e]
  · rw [if_neg hg]
    simp [age, old, hg]
theorem ageN_three {L : List En} (h : Ok L) (g : Int) : ageN (ageL (ageL (ageL L g) g) g) g = 0 := by
  unfold ageN ageL
  rw [cnt_turn, cnt_turn, cnt_turn, List.countP_eq_zero]
  intro x hx
  have e := age3 (g := g) (h.rng x hx)
  simp only [old, age_g, e, Bool.and_eq_true, beq_iff_eq, decide_eq_true_eq]
  rintro ⟨h1, h2⟩
  rw [if_pos h1] at h2
  omega
theorem cnt_out {L : List En} (h : Ok L) {g : Int} (hg : okI g = false) : cntL L g = 0 := by
  unfold cntL
  rw [List.countP_eq_zero]
  intro x hx
  obtain ⟨_, h2, _⟩ := h.rng x hx
  rw [okI_not] at hg
  simp
  omega
theorem cnt_from {L : List En} {f t : Int} (hm : may f t = true) : cntL (moveL L f t) f = 0 := by
  unfold cntL moveL
  simp only [may, Bool.and_eq_true, decide_eq_true_eq] at hm
  rw [if_pos (by simp [may, hm]), cnt_turn, List.countP_eq_zero]
  intro x _
  unfold mv
  split
  · simp; exact fun e => hm.2 e.symm
  · simpa
theorem cnt_to {L : List En} {f t : Int} (hm : may f t = true) : cntL (moveL L f t) t = cntL L t + cntL L f := by
  unfold cntL moveL
  rw [if_pos hm, cnt_turn]
  simp only [may, Bool.and_eq_true, decide_eq_true_eq] at hm
  induction L with
  | nil => rfl
  | cons a L ih =>
    rw [List.countP_cons, List.countP_cons, List.countP_cons, ih]
    by_cases h1 : a.g = f
    · have h2 : a.g ≠ t := fun e => hm.2 (h1.symm.trans e)
      have h3 : (f == t) = false := by simp [hm.2]
      simp [mv, h1, h3]
      omega
    · have h4 : (a.g == f) = false := by simp [h1]
      have h5 : mv f t a = a := by unfold mv; rw [if_neg h1]
      rw [h4, h5]
      by_cases h2 : a.g = t
      · simp [h2]; omega
      · simp [h2]
theorem move_back {L : List En} {f t : Int} (hm : may f t = true) (hf : okI f = true) (h0 : cntL L t = 0) : moveL (moveL L f t) t f = L := by
  have hm' : may t f = true := by
    simp only [may, Bool.and_eq_true, decide_eq_true_eq] at hm ⊢
    exact ⟨hf, fun e => hm.2 e.symm⟩
  unfold moveL
  rw [if_pos hm, if_pos hm']
  unfold turn
  rw [List.map_map]
  conv => rhs; rw [← List.map_id L]
  refine List.map_congr_left fun x hx => ?_
  unfold cntL at h0
  rw [List.countP_eq_zero] at h0
  have h1 : x.g ≠ t := by simpa using h0 x hx
  by_cases h2 : x.g = f
  · simp [mv, h2]
    exact En.eq rfl h2.symm rfl
  · simp [mv, h2, h1]
theorem ord_one_len {L : List En} (h : Ok L) (g : Int) : (ordL L [g]).length = cntL L g := by
  rw [ordL_len h]
  unfold cntL
  refine List.countP_congr fun x _ => ?_
  simp [inG]
  exact ⟨fun e => e.symm, fun e => e.symm⟩
theorem touch_len {L : List En} (h : Ok L) (i : Int) (G : List Int) : (ordL (touchL L i) G).length = (ordL L G).length := by
  rw [ordL_len (touchL_ok h i), ordL_len h]
  exact inG_turn (tou_g i) L G
theorem drop_len {L : List En} (h : Ok L) {i : Int} {x : En} (hl : lk L i = some x) (G : List Int) : (ordL (dropL L i) G).length + (if inG G x then 1 else 0) = (ordL L G).length := by
  rw [ordL_len (dropL_ok h i), ordL_len h]
  exact dropL_count h.srt hl (inG G)
theorem ins_count {L : List En} {x : En} (hl : lk L x.i = none) (p : En → Bool) : (ins x L).countP p = L.countP p + if p x then 1 else 0 := by
  have hn := lk_none.1 hl
  have h1 : ∀ M : List En, (∀ y ∈ M, y.i ≠ x.i) → (M.filter fun y => decide (y.i < x.i)).countP p + (M.filter fun y => decide (x.i < y.i)).countP p = M.countP p := by
    intro M hM
    induction M with
    | nil => rfl
    | cons a M ih =>
      have i1 := ih fun y hy => hM y (by simp [hy])
      have i2 := hM a (by simp)
      by_cases h1 : a.i < x.i
      · have h2 : ¬ x.i < a.i := by omega
        rw [List.filter_cons_of_pos (by simp [h1]), List.filter_cons_of_neg (by simp [h2]), List.countP_cons, List.countP_cons]
        omega
      · have h2 : x.i < a.i := by omega
        rw [List.filter_cons_of_neg (by simp [h1]), List.filter_cons_of_pos (by simp [h2]), List.countP_cons, List.countP_cons]
        omega
  have := h1 L hn
  unfold ins
  rw [List.countP_append, List.countP_cons]
  omega
theorem ord_next {L : List En} (h : Ok L) (G : List Int) {k : Nat} {x y : En} (hx : (ordL L G)[k]? = some x) (hy : (ordL L G)[k + 1]? = some y) : ahead x y := by
  obtain ⟨h1, h2⟩ := List.getElem?_eq_some_iff.1 hx
  obtain ⟨h3, h4⟩ := List.getElem?_eq_some_iff.1 hy
  have := List.pairwise_iff_getElem.1 (ordL_ahead h.srt G) k (k + 1) h1 h3 (by omega)
  rw [h2, h4] at this
  exact this
end Go.Proofs.Ytfmgmelgfnppkaa
