/-
  Shadows as numbers: what is made of a group and a clock, what is read of a word, how far it is; clocks, and how many came back, as functions of groups. No program is named here.
-/
namespace Go.Proofs.Ytgnobaenlcbfjaa

/-! ### words -/
/-- May a shadow be made of them? -/
def okS (g c : Int) : Bool := decide (0 ≤ g ∧ g ≤ 255 ∧ 0 ≤ c)
/-- Its word. -/
def mkS (g c : Int) : Nat := if okS g c then 1 + 2 * g.toNat + 512 * (c % 1099511627776).toNat else 0
/-- Is a word that of a shadow? -/
def isS (x : Nat) : Bool := x % 2 == 1 && decide (x < 562949953421312)
def gS (x : Nat) : Int := if isS x then ((x / 2 % 256 : Nat) : Int) else 0
def cS (x : Nat) : Int := if isS x then ((x / 512 : Nat) : Int) else 0
/-- How many went since. -/
def dS (x : Nat) (c : Int) : Int := if isS x && decide (0 ≤ c) then (c - cS x) % 1099511627776 else -1
def nearS (x : Nat) (c r : Int) : Bool := decide (0 ≤ dS x c ∧ dS x c ≤ r)

theorem isS_iff (x : Nat) : isS x = true ↔ x % 2 = 1 ∧ x < 562949953421312 := by simp [isS]
theorem isS_not (x : Nat) : isS x = false ↔ ¬ (x % 2 = 1 ∧ x < 562949953421312) := by
  rw [← isS_iff]
  cases isS x <;> simp
theorem isS_nought : isS 0 = false := by decide
theorem okS_iff (g c : Int) : okS g c = true ↔ 0 ≤ g ∧ g ≤ 255 ∧ 0 ≤ c := by simp [okS]
theorem mkS_ok {g c : Int} (h : 0 ≤ g) (h' : g ≤ 255) (hc : 0 ≤ c) : mkS g c = 1 + 2 * g.toNat + 512 * (c % 1099511627776).toNat := by
  have : okS g c = true := (okS_iff g c).mpr ⟨h, h', hc⟩
  simp [mkS, this]
theorem mkS_no {g c : Int} (h : ¬ (0 ≤ g ∧ g ≤ 255 ∧ 0 ≤ c)) : mkS g c = 0 := by
  have : okS g c = false := by
    cases h1 : okS g c
    · rfl
    · exact absurd ((okS_iff g c).mp h1) h
  simp [mkS, this]
theorem mkS_lt (g c : Int) : mkS g c < 562949953421312 := by
  by_cases h : 0 ≤ g ∧ g ≤ 255 ∧ 0 ≤ c
  · rw [mkS_ok h.1 h.2.1 h.2.2]; omega
  · rw [mkS_no h]; decide
theorem isS_mk {g c : Int} (h : 0 ≤ g) (h' : g ≤ 255) (hc : 0 ≤ c) : isS (mkS g c) = true := by
  refine (isS_iff _).mpr ⟨?_, mkS_lt g c⟩
  rw [mkS_ok h h' hc]; omega
theorem gS_mk {g c : Int} (h : 0 ≤ g) (h' : g ≤ 255) (hc : 0 ≤ c) : gS (mkS g c) = g := by
  rw [gS, isS_mk h h' hc, mkS_ok h h' hc]
  simp only [if_true]
  omega
theorem cS_mk {g c : Int} (h : 0 ≤ g) (h' : g ≤ 255) (hc : 0 ≤ c) : cS (mkS g c) = c % 1099511627776 := by
  rw [cS, isS_mk h h' hc, mkS_ok h h' hc]
  simp only [if_true]
  omega
theorem cS_mk_small {g c : Int} (h : 0 ≤ g) (h' : g ≤ 255) (hc : 0 ≤ c) (hc' : c < 1099511627776) : cS (mkS g c) = c := by
  rw [cS_mk h h' hc]; omega
theorem gS_bounds (x : Nat) : 0 ≤ gS x ∧ gS x ≤ 255 := by
  unfold gS
  split <;> omega
theorem cS_bounds (x : Nat) : 0 ≤ cS x ∧ cS x < 1099511627776 := by
  unfold cS
  split
  · rename_i h
    have := ((isS_iff x).mp h).2
    omega
  · omega
theorem gS_is {x : Nat} (h : isS x = true) : gS x = ((x / 2 % 256 : Nat) : Int) := by simp [gS, h]
theorem cS_is {x : Nat} (h : isS x = true) : cS x = ((x / 512 : Nat) : Int) := by simp [cS, h]
theorem gS_none {x : Nat} (h : isS x = false) : gS x = 0 := by simp [gS, h]
theorem cS_none {x : Nat} (h : isS x = false) : cS x = 0 := by simp [cS, h]
/-- A word that is a shadow is made of what is read of it. -/
theorem mk_look {x : Nat} (h : isS x = true) : mkS (gS x) (cS x) = x := by
  have hg := gS_bounds x
  have hc := cS_bounds x
  rw [mkS_ok hg.1 hg.2 hc.1, gS_is h, cS_is h]
  have := (isS_iff x).mp h
  omega

/-! ### how far -/
theorem dS_is {x : Nat} {c : Int} (h : isS x = true) (hc : 0 ≤ c) : dS x c = (c - cS x) % 1099511627776 := by simp [dS, h, hc]
theorem dS_none {x : Nat} {c : Int} (h : ¬ (isS x = true ∧ 0 ≤ c)) : dS x c = -1 := by
  unfold dS
  split
  · rename_i h1
    exact absurd (by simpa using h1) h
  · rfl
theorem dS_bounds (x : Nat) (c : Int) : -1 ≤ dS x c ∧ dS x c < 1099511627776 := by
  by_cases h : isS x = true ∧ 0 ≤ c
  · rw [dS_is h.1 h.2]; omega
  · rw [dS_none h]; omega
/-- As the document spells it. -/
theorem dS_doc {x : Nat} {c : Int} (h : isS x = true) (hc : 0 ≤ c) : dS x c = (c % 1099511627776 - cS x + 1099511627776) % 1099511627776 := by
  rw [dS_is h hc]; omega
theorem dS_nonneg {x : Nat} {c : Int} (h : isS x = true) (hc : 0 ≤ c) : 0 ≤ dS x c := by
  rw [dS_is h hc]; omega
/-- Time that goes on by n is n more. -/
theorem dS_later {g c n : Int} (h : 0 ≤ g) (h' : g ≤ 255) (hc : 0 ≤ c) (hn : 0 ≤ n) (hn' : n < 1099511627776) : dS (mkS g c) (c + n) = n := by
  rw [dS_is (isS_mk h h' hc) (by omega), cS_mk h h' hc]; omega
/-- A word is a shadow just where it is some way off. -/
theorem isS_dist (x : Nat) : isS x = decide (0 ≤ dS x 0) := by
  cases h : isS x
  · rw [dS_none (by simp [h])]; rfl
  · have := dS_nonneg h (Int.le_refl 0)
    simp [this]
theorem nearS_is {x : Nat} {c : Int} (r : Int) (h : isS x = true) (hc : 0 ≤ c) : nearS x c r = decide (dS x c ≤ r) := by
  have := dS_nonneg h hc
  simp [nearS, this]
theorem nearS_none {x : Nat} {c : Int} (r : Int) (h : ¬ (isS x = true ∧ 0 ≤ c)) : nearS x c r = false := by
  simp [nearS, dS_none h]
theorem near_later {g c n : Int} (r : Int) (h : 0 ≤ g) (h' : g ≤ 255) (hc : 0 ≤ c) (hn : 0 ≤ n) (hn' : n < 1099511627776) : nearS (mkS g c) (c + n) r = decide (n ≤ r) := by
  rw [nearS_is r (isS_mk h h' hc) (by omega), dS_later h h' hc hn hn']

/-! ### clocks, and how many came back -/
/-- One more of a group. -/
def up (f : Int → Int) (g : Int) : Int → Int := fun j => if j = g ∧ 0 ≤ g ∧ g ≤ 63 then f j + 1 else f j
/-- What a call answers of a group. -/
def ofG (f : Int → Int) (g : Int) : Int := if 0 ≤ g ∧ g ≤ 63 then f g else 0
/-- The shadow of what goes. -/
def wentX (f : Int → Int) (g : Int) : Nat := if 0 ≤ g ∧ g ≤ 63 then mkS g (f g) else 0
/-- Is what comes near? -/
def cameB (f : Int → Int) (x : Nat) (r : Int) : Bool := isS x && decide (gS x ≤ 63) && nearS x (f (gS x)) r
/-- Who came back then. -/
def cameF (f k : Int → Int) (x : Nat) (g r : Int) : Int → Int := if cameB f x r then up k g else k
/-- Clocks that n calls can have come to. -/
def Upto (f : Int → Int) (n : Nat) : Prop := ∀ j, 0 ≤ f j ∧ f j ≤ n

theorem upto_zero : Upto (fun _ => 0) 0 := fun _ => ⟨Int.le_refl 0, Int.le_refl 0⟩
theorem Upto.up {f : Int → Int} {n : Nat} (h : Upto f n) (g : Int) : Upto (up f g) (n + 1) := by
  intro j
  have := h j
  unfold Ytgnobaenlcbfjaa.up
  split <;> omega
theorem Upto.more {f : Int → Int} {n m : Nat} (h : Upto f n) (hm : n ≤ m) : Upto f m := by
  intro j
  have := h j
  omega
theorem Upto.came {k : Int → Int} {n : Nat} (h : Upto k n) (f : Int → Int) (x : Nat) (g r : Int) : Upto (cameF f k x g r) (n + 1) := by
  unfold cameF
  split
  · exact h.up g
  · exact h.more (Nat.le_succ n)
theorem up_self (f : Int → Int) {g : Int} (h : 0 ≤ g) (h' : g ≤ 63) : up f g g = f g + 1 := by simp [up, h, h']
theorem up_other (f : Int → Int) {g j : Int} (h : j ≠ g) : up f g j = f j := by simp [up, h]
theorem up_no (f : Int → Int) {g : Int} (h : ¬ (0 ≤ g ∧ g ≤ 63)) : up f g = f := by
  funext j
  unfold up
  split
  · rename_i h1; exact absurd h1.2 h
  · rfl
theorem wentX_in (f : Int → Int) {g : Int} (h : 0 ≤ g) (h' : g ≤ 63) : wentX f g = mkS g (f g) := by simp [wentX, h, h']
theorem wentX_no (f : Int → Int) {g : Int} (h : ¬ (0 ≤ g ∧ g ≤ 63)) : wentX f g = 0 := by simp [wentX, h]
theorem ofG_in (f : Int → Int) {g : Int} (h : 0 ≤ g) (h' : g ≤ 63) : ofG f g = f g := by simp [ofG, h, h']
theorem ofG_no (f : Int → Int) {g : Int} (h : ¬ (0 ≤ g ∧ g ≤ 63)) : ofG f g = 0 := by simp [ofG, h]
theorem wentX_lt (f : Int → Int) (g : Int) : wentX f g < 562949953421312 := by
  unfold wentX
  split
  · exact mkS_lt g _
  · decide

/-! ### what the laws want -/
/-- What went from a group's first on: as many as its clock tells. -/
def MadeOk (g : Int) (M : List Nat) (c : Int) : Prop := c = M.length ∧ ∀ i (h : i < M.length), M[i] = mkS g i
theorem made_nil (g : Int) : MadeOk g [] 0 := ⟨rfl, fun i h => absurd h (Nat.not_lt_zero i)⟩
theorem made_snoc {g : Int} {M : List Nat} {c : Int} (h : MadeOk g M c) : MadeOk g (M ++ [mkS g c]) (c + 1) := by
  refine ⟨by have := h.1; simp; omega, ?_⟩
  intro i hi
  simp at hi
  by_cases h1 : i < M.length
  · rw [List.getElem_append_left h1, h.2 i h1]
  · have h2 : i = M.length := by omega
    subst h2
    simp [h.1]
/-- One more that went, of whatever group. -/
theorem made_step {g : Int} {M : List Nat} {f : Int → Int} (h : MadeOk g M (f g)) (hg : 0 ≤ g) (hg' : g ≤ 63) (j : Int) :
    MadeOk g (if j = g then M ++ [wentX f j] else M) (up f j g) := by
  by_cases h1 : j = g
  · subst h1
    rw [if_pos rfl, up_self f hg hg', wentX_in f hg hg']
    exact made_snoc h
  · rw [if_neg h1, up_other f (fun h2 => h1 h2.symm)]
    exact h
/-- What a shadow that went is behind them all. -/
theorem made_look {g : Int} {M : List Nat} {c : Int} (h : MadeOk g M c) (hg : 0 ≤ g) (hg' : g ≤ 63) (hM : M.length ≤ 100) (i : Nat) (hi : i < M.length) :
    isS M[i] = true ∧ gS M[i] = g ∧ cS M[i] = i ∧ dS M[i] c = c - i := by
  have hc := h.1
  rw [h.2 i hi]
  refine ⟨isS_mk hg (by omega) (by omega), gS_mk hg (by omega) (by omega), cS_mk_small hg (by omega) (by omega) (by omega), ?_⟩
  have h2 := dS_later (g := g) (c := i) (n := c - i) hg (by omega) (by omega) (by omega) (by omega)
  rw [← h2]
  congr 1
  omega
/-- ShadowNear's answer. -/
theorem came_near {f : Int → Int} {g n i : Int} (r : Int) (hg : 0 ≤ g) (hg' : g ≤ 63) (hi : 0 ≤ i) (hn : i ≤ n) (hn' : n < 1099511627776) (hf : f g = n) :
    cameB f (mkS g i) r = decide (n - i ≤ r) := by
  have h1 := isS_mk hg (by omega : g ≤ 255) hi
  have h2 := gS_mk hg (by omega : g ≤ 255) hi
  have h3 := near_later (g := g) (c := i) (n := n - i) r hg (by omega) hi (by omega) (by omega)
  have h4 : i + (n - i) = n := by omega
  rw [h4] at h3
  simp [cameB, h1, h2, hf, h3, hg']

end Go.Proofs.Ytgnobaenlcbfjaa
