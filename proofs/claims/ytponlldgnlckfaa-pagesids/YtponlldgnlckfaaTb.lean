/-
  What the laws want of the program's table: each call's contract over whatever predicate tells how the table lies in memory, and which blocks are its own.
-/
import Derived.Test.YtponlldgnlckfaaR6
namespace Go.Proofs.Ytponlldgnlckfaa
open Go.RowKit

/-- All blocks that are not S's stay; more may be made. -/
structure Out (S : Nat → Prop) (w w' : World) : Prop where
  os : w'.os = w.os
  tape : w'.tape = w.tape
  output : w'.output = w.output
  size : w.heap.size ≤ w'.heap.size
  block : ∀ k, k < w.heap.size → ¬ S k → w'.heap[k]? = w.heap[k]?
section
variable {S S' : Nat → Prop} {u v w w' : World}
theorem Out.refl (S : Nat → Prop) (w : World) : Out S w w := ⟨rfl, rfl, rfl, Nat.le_refl _, fun _ _ _ => rfl⟩
theorem Out.ofBelow (h : Below w.heap.size w w') : Out S w w' := ⟨h.os, h.tape, h.output, h.size, fun k hk _ => h.block k hk⟩
theorem Out.below {B : Nat} (h : Out S w w') (hB : B ≤ w.heap.size) (hS : ∀ k, S k → B ≤ k) : Below B w w' :=
  ⟨h.os, h.tape, h.output, h.size, fun k hk => h.block k (Nat.lt_of_lt_of_le hk hB) (fun hs => by have := hS k hs; omega)⟩
/-- A block that is not S's. -/
theorem Out.row {b : Nat} {t : TypeId} {vs : List Value} (h : Out S w w') (hr : RowAt w b t vs) (hb : ¬ S b) : RowAt w' b t vs := by
  unfold RowAt
  rw [h.block b hr.lt hb]
  exact hr
theorem Out.cell {p : Addr} {x : Value} (h : Out S w w') (hc : w.cell? p = some x) (hb : ¬ S p.block) : w'.cell? p = some x := by
  have hl := block_lt_of_cell (a := p) hc
  have := h.block p.block hl hb
  unfold World.cell? at *
  rw [this]; exact hc
/-- A row whose blocks lie from base on, where S lies below it. -/
theorem Out.own {B e c n : Nat} {x : Value} {xs : List Value} (h : Out S w w') (ho : w.ownsRow B e c x n xs) (hb : ∀ k, S k → k < B) : w'.ownsRow B e c x n xs :=
  own_turn ho fun k _ hk hc => by
    rw [h.block k (lt_of_block hc) (fun hs => by have := hb k hs; omega)]
    exact hc
theorem Out.kpd (h : Out S w w') (hS : ∀ k o, S k → w.heap[k]? = some o → dob o = false) : Kp dob w w' :=
  ⟨h.os, h.tape, h.output, h.size, fun k o ho hk => by
    rw [h.block k (lt_of_block hk) (fun hs => by rw [hS k o hs hk] at ho; cases ho)]
    exact hk⟩
end

/-- The calls' contracts; Tb w0 w t S L: since w0 the table t was made, its blocks are S, its pages L. -/
structure TbI (Tb : World → World → Nat → (Nat → Prop) → List Pg → Prop) : Prop where
  lt : ∀ {w0 w t S L k}, Tb w0 w t S L → S k → k < w.heap.size
  lo : ∀ {w0 w t S L k}, Tb w0 w t S L → S k → w0.heap.size ≤ k
  bel : ∀ {w0 w t S L}, Tb w0 w t S L → Below w0.heap.size w0 w
  dob : ∀ {w0 w t S L k o}, Tb w0 w t S L → S k → w.heap[k]? = some o → dob o = false
  keep : ∀ {w0 w w' t S L}, Tb w0 w t S L → Below w0.heap.size w0 w' → w.heap.size ≤ w'.heap.size → (∀ k, S k → w'.heap[k]? = w.heap[k]?) → Tb w0 w' t S L
  new : ∀ {w0 w}, Below w0.heap.size w0 w → Calls Try.prog 11 #[] w fun e w' => ∃ t S, e = .returned (.pointer (some ⟨t, 0, none⟩)) ∧ Tb w0 w' t S [] ∧ Below w.heap.size w w'
  get : ∀ {w0 w t S L}, Tb w0 w t S L → ∀ {id : Int}, (Lit.int .i64 id).wf = true →
    Calls Try.prog 19 #[.pointer (some ⟨t, 0, none⟩), .int .i64 id] w fun e w' => e = .returned (.tuple #[pv (getL L id), .int .i64 (getE L id)]) ∧ Below w.heap.size w w'
  of : ∀ {w0 w t S L}, Tb w0 w t S L → ∀ {f i : Int}, (Lit.int .i64 f).wf = true → (Lit.int .i64 i).wf = true →
    Calls Try.prog 21 #[.pointer (some ⟨t, 0, none⟩), .agg #[.int .i64 f, .int .i64 i]] w fun e w' => e = .returned (.int .i64 (ofL L f i)) ∧ Below w.heap.size w w'
  att : ∀ {w0 w t S L}, Tb w0 w t S L → ∀ {p a : Int}, (Lit.int .i64 p).wf = true → (Lit.int .i64 a).wf = true →
    Calls Try.prog 23 #[.pointer (some ⟨t, 0, none⟩), .int .i64 p, .int .i64 a] w fun e w' => e = .returned (.int .i64 (atL L p a)) ∧ Below w.heap.size w w'
  those : ∀ {w0 w t S L}, Tb w0 w t S L → L.length < 900000 → ∀ {o : Int}, (Lit.int .i64 o).wf = true →
    Calls Try.prog 28 #[.pointer (some ⟨t, 0, none⟩), .int .i64 o] w fun e w' => ∃ a cap, e = .returned (.slice a (idsL L (anyP false o)).length cap) ∧ Ints w' a (idsL L (anyP false o)) ∧ (∀ p, a = some p → w.heap.size ≤ p.block) ∧ Below w.heap.size w w'
  all : ∀ {w0 w t S L}, Tb w0 w t S L → L.length < 900000 →
    Calls Try.prog 26 #[.pointer (some ⟨t, 0, none⟩)] w fun e w' => ∃ a cap, e = .returned (.slice a (idsL L (anyP true 0)).length cap) ∧ Ints w' a (idsL L (anyP true 0)) ∧ (∀ p, a = some p → w.heap.size ≤ p.block) ∧ Below w.heap.size w w'
  make : ∀ {w0 w t S L M}, Tb w0 w t S L → Ok M L → M ≤ 900000000 → L.length < 900000 → ∀ {f i o : Int}, (Lit.int .i64 f).wf = true → (Lit.int .i64 i).wf = true → (Lit.int .i64 o).wf = true →
    Calls Try.prog 30 #[.pointer (some ⟨t, 0, none⟩), .agg #[.int .i64 f, .int .i64 i], .int .i64 o] w fun e w' => e = .returned (.tuple #[.int .i64 (makeR L f i), .int .i64 (makeE L f i)]) ∧ ∃ S', Tb w0 w' t S' (makeL L f i o) ∧ Out S w w' ∧ ∀ k, S' k → S k ∨ w.heap.size ≤ k
  put : ∀ {w0 w t S L M}, Tb w0 w t S L → Ok M L → M ≤ 900000000 → L.length < 900000 → ∀ {id p a : Int}, (Lit.int .i64 id).wf = true → (Lit.int .i64 p).wf = true → (Lit.int .i64 a).wf = true →
    Calls Try.prog 29 #[.pointer (some ⟨t, 0, none⟩), .int .i64 id, .int .i64 p, .int .i64 a] w fun e w' => e = .returned (.int .i64 (putE L id p a)) ∧ ∃ S', Tb w0 w' t S' (putL L id p a) ∧ Out S w w' ∧ ∀ k, S' k → S k ∨ w.heap.size ≤ k
  ref : ∀ {w0 w t S L M}, Tb w0 w t S L → Ok M L → M ≤ 900000000 → L.length < 900000 → ∀ {id n : Int}, (Lit.int .i64 id).wf = true → (Lit.int .i64 n).wf = true →
    Calls Try.prog 31 #[.pointer (some ⟨t, 0, none⟩), .int .i64 id, .int .i64 n] w fun e w' => e = .returned (.tuple #[.int .i64 (refN L id n), .int .i64 (refE L id n)]) ∧ ∃ S', Tb w0 w' t S' (refL L id n) ∧ Out S w w' ∧ ∀ k, S' k → S k ∨ w.heap.size ≤ k
  drop : ∀ {w0 w t S L M}, Tb w0 w t S L → Ok M L → M ≤ 900000000 → L.length < 900000 → ∀ {id : Int}, (Lit.int .i64 id).wf = true →
    Calls Try.prog 32 #[.pointer (some ⟨t, 0, none⟩), .int .i64 id] w fun e w' => e = .returned (.int .i64 (dropE L id)) ∧ ∃ S', Tb w0 w' t S' (dropL L id) ∧ Out S w w' ∧ ∀ k, S' k → S k ∨ w.heap.size ≤ k
  own : ∀ {w0 w t S L M}, Tb w0 w t S L → Ok M L → M ≤ 900000000 → L.length < 900000 → ∀ {id o : Int}, (Lit.int .i64 id).wf = true → (Lit.int .i64 o).wf = true →
    Calls Try.prog 33 #[.pointer (some ⟨t, 0, none⟩), .int .i64 id, .int .i64 o] w fun e w' => e = .returned (.int .i64 (getE L id)) ∧ ∃ S', Tb w0 w' t S' (ownL L id o) ∧ Out S w w' ∧ ∀ k, S' k → S k ∨ w.heap.size ≤ k
  mark : ∀ {w0 w t S L M}, Tb w0 w t S L → Ok M L → M ≤ 900000000 → L.length < 900000 → ∀ {id : Int} {d : Bool}, (Lit.int .i64 id).wf = true →
    Calls Try.prog 34 #[.pointer (some ⟨t, 0, none⟩), .int .i64 id, .bool d] w fun e w' => e = .returned (.int .i64 (getE L id)) ∧ ∃ S', Tb w0 w' t S' (markL L id d) ∧ Out S w w' ∧ ∀ k, S' k → S k ∨ w.heap.size ≤ k

/-- The table, whichever blocks it has. -/
def Tab (Tb : World → World → Nat → (Nat → Prop) → List Pg → Prop) (M : Int) (w0 w : World) (t : Nat) (L : List Pg) : Prop := (∃ S, Tb w0 w t S L) ∧ Ok M L ∧ 0 ≤ M ∧ M ≤ 800000000
section
variable {Tb : World → World → Nat → (Nat → Prop) → List Pg → Prop} {w0 w w' : World} {t : Nat} {S : Nat → Prop} {L : List Pg} {M : Int}
theorem TbI.later (I : TbI Tb) (h : Tb w0 w t S L) (hb : Below w.heap.size w w') : Tb w0 w' t S L :=
  I.keep h (bel_trans (I.bel h) hb (Nat.le_refl _)) hb.size fun k hk => hb.block k (I.lt h hk)
theorem TbI.tlater (I : TbI Tb) (h : Tab Tb M w0 w t L) (hb : Below w.heap.size w w') : Tab Tb M w0 w' t L := by
  obtain ⟨⟨S, hS⟩, h2⟩ := h
  exact ⟨⟨S, I.later hS hb⟩, h2⟩
theorem TbI.tbel (I : TbI Tb) (h : Tab Tb M w0 w t L) : Below w0.heap.size w0 w := by
  obtain ⟨⟨S, hS⟩, -⟩ := h
  exact I.bel hS
/-- Another one's blocks turn, none of which is the table's. -/
theorem TbI.tkp (I : TbI Tb) (h : Tab Tb M w0 w t L) (hk : Kp pob w w') (hb : Below w0.heap.size w w') : Tab Tb M w0 w' t L := by
  obtain ⟨⟨S, hS⟩, h2⟩ := h
  refine ⟨⟨S, I.keep hS ((I.bel hS).trans hb) hk.size fun k hs => ?_⟩, h2⟩
  have hl := I.lt hS hs
  have e : w.heap[k]? = some w.heap[k] := Array.getElem?_eq_getElem hl
  have := I.dob hS hs e
  rw [e]
  exact hk.block k _ (by simp [pob, this]) e
end
end Go.Proofs.Ytponlldgnlckfaa
