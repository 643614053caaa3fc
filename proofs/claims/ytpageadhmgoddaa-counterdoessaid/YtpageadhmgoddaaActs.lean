/-
  An act's cells; what one act does; rows of what is counted of each group; two rows that lie apart.
-/
import Derived.Test.YtpageadhmgoddaaApp
namespace Go.Proofs.Ytpageadhmgoddaa
open Go.RowKit

/-- An act's cells, in whatever world that keeps what came in. -/
theorem ActsAt.told {w : World} {a : Option Addr} {l : List Ac} (h : ActsAt w a l) {i : Nat} (hi : i < l.length) : ∃ b off, a = some ⟨b, off, none⟩ ∧ ∀ W, Below w.heap.size w W →
    W.cell? ⟨b, off + i * 4, none⟩ = some (.int .i64 l[i].k) ∧ W.cell? ⟨b, off + i * 4 + 1, none⟩ = some (.slice l[i].a l[i].l.length l[i].cap) ∧ W.cell? ⟨b, off + i * 4 + 2, none⟩ = some (.int .i64 l[i].g) ∧ W.cell? ⟨b, off + i * 4 + 3, none⟩ = some (.int .i64 l[i].n) := by
  obtain ⟨b, off, hab, h1, h2⟩ := h.2 i hi
  refine ⟨b, off, hab, fun W hW => ?_⟩
  obtain ⟨b', off', hab', k0, k1, k2, k3, -⟩ := (h.below hW).at hi
  rw [hab] at hab'
  have e := Option.some.inj hab'
  injection e with e1 e2
  subst e1
  subst e2
  exact ⟨k0, k1, k2, k3⟩
theorem ActsAt.ints {w : World} {a : Option Addr} {l : List Ac} (h : ActsAt w a l) {i : Nat} (hi : i < l.length) : Ints w l[i].a l[i].l := by
  obtain ⟨b, off, -, -, h2⟩ := h.2 i hi
  exact h2
/-- What one act comes to. -/
def doA (S : Cs) (K : Int) (L : List Int) (G X : Int) : Cs := if K.tmod 3 = 0 then tryC S L X else if K.tmod 3 = 1 then giveC S L X else if K.tmod 3 = 2 then setC S G X else S
theorem doA_0 (S : Cs) {K : Int} (L : List Int) (G X : Int) (h : K.tmod 3 = 0) : doA S K L G X = tryC S L X := if_pos h
theorem doA_1 (S : Cs) {K : Int} (L : List Int) (G X : Int) (h : K.tmod 3 = 1) : doA S K L G X = giveC S L X := by
  unfold doA; rw [if_neg (by omega), if_pos h]
theorem doA_2 (S : Cs) {K : Int} (L : List Int) (G X : Int) (h : K.tmod 3 = 2) : doA S K L G X = setC S G X := by
  unfold doA; rw [if_neg (by omega), if_neg (by omega), if_pos h]
theorem doA_no (S : Cs) {K : Int} (L : List Int) (G X : Int) (h0 : ¬ K.tmod 3 = 0) (h1 : ¬ K.tmod 3 = 1) (h2 : ¬ K.tmod 3 = 2) : doA S K L G X = S := by
  unfold doA; rw [if_neg h0, if_neg h1, if_neg h2]

/-- What is counted of the first groups. -/
def rw64 (f : Int → Int) (j : Nat) : List Int := (List.range j).map fun k : Nat => f k
theorem rw64_zero (f : Int → Int) : rw64 f 0 = [] := rfl
theorem rw64_succ (f : Int → Int) (j : Nat) : rw64 f (j + 1) = rw64 f j ++ [f j] := by simp [rw64, List.range_succ]
theorem rw64_len (f : Int → Int) (j : Nat) : (rw64 f j).length = j := by simp [rw64]
theorem rw64_at (f : Int → Int) {j i : Nat} (h : i < j) : ((rw64 f j).map iv)[i]? = some (.int .i64 (f i)) := by simp [rw64, iv, h]
theorem own_cell {w : World} {B : Nat} {v : Value} {f : Int → Int} (h : w.ownsRow B 3 1 v (rw64 f 64).length ((rw64 f 64).map iv)) : ∃ g cap, v = .slice (some ⟨g, 0, none⟩) 64 cap ∧ ∀ i, i < 64 → w.cell? ⟨g, i, none⟩ = some (.int .i64 (f i)) := by
  obtain ⟨a, cap, rfl, h2⟩ := own_form h
  rw [rw64_len] at h2
  obtain ⟨g, rfl, h3⟩ := h2 (by decide)
  refine ⟨g, cap, by rw [rw64_len], fun i hi => ?_⟩
  rw [h3 i (by omega), rw64_at f hi]

/-- Two slices that lie in no one row. -/
def Dj (v v' : Value) : Prop := ∀ k, v.ownBlock = some k → v'.ownBlock ≠ some k
theorem dj_nil (v : Value) : Dj (.slice none 0 0) v := fun k h => by cases h
theorem Dj.symm {v v' : Value} (h : Dj v v') : Dj v' v := fun k hk hk2 => h k hk2 hk
theorem Dj.keep {w w' : World} {B n : Nat} {v v' : Value} {xs : List Value} (h : Dj v v') (ho : w.ownsRow B 3 1 v' n xs) (hg : w.grownBy w' v.ownBlock) : w'.ownsRow B 3 1 v' n xs := by
  refine ho.kept hg ?_
  cases hv : v'.ownBlock with
  | none => exact Or.inl rfl
  | some k =>
    refine Or.inr fun e => ?_
    exact h k e.symm hv
theorem Dj.app {w : World} {B n : Nat} {v v' v2 : Value} {xs : List Value} (h : Dj v v') (ho : w.ownsRow B 3 1 v' n xs) (hat : v2.ownBlock = v.ownBlock ∨ ∀ k, v2.ownBlock = some k → w.heap.size ≤ k) : Dj v2 v' := by
  intro k hk hk2
  rcases hat with e | e
  · rw [e] at hk; exact h k hk hk2
  · have := e k hk
    have := (ho.lt k hk2).2
    omega
end Go.Proofs.Ytpageadhmgoddaa
