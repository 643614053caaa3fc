/-
  The program's table and the document's side by side.
-/
import Derived.Test.YtponlldgnlckfaaSt
namespace Go.Proofs.Ytponlldgnlckfaa
open Go.RowKit

/-- Both tables: the program's since w0, all that the document's has from B on. -/
structure Bo (Tb : World → World → Nat → (Nat → Prop) → List Pg → Prop) (w0 w : World) (t rr B : Nat) (L : List Pg) : Prop where
  tb : ∃ S, Tb w0 w t S L
  rf : RefIs B w rr L
  lo : w0.heap.size ≤ B
  hi : B ≤ w.heap.size
theorem RefIs.made (w : World) : RefIs w.heap.size (w.alloc (.cells #[.slice none 0 0] 32)) w.heap.size [] :=
  ⟨⟨.slice none 0 0, RowAt.new w #[.slice none 0 0] 32, World.ownsRow_nil _ _ _ _⟩, Nat.le_refl _⟩
section
variable {Tb : World → World → Nat → (Nat → Prop) → List Pg → Prop} {w0 w w' : World} {t rr B : Nat} {L : List Pg} {M : Int}
theorem Bo.bel (I : TbI Tb) (h : Bo Tb w0 w t rr B L) : Below w0.heap.size w0 w := by
  obtain ⟨S, hS⟩ := h.tb
  exact I.bel hS
theorem Bo.later (I : TbI Tb) (h : Bo Tb w0 w t rr B L) (hb : Below w.heap.size w w') : Bo Tb w0 w' t rr B L := by
  obtain ⟨S, hS⟩ := h.tb
  exact ⟨⟨S, I.later hS hb⟩, h.rf.below hb, h.lo, Nat.le_trans h.hi hb.size⟩
/-- The law's act on the program's, its own box beside. -/
theorem do_both (I : TbI Tb) (h : Bo Tb w0 w t rr B L) (hO : Ok M L) (hM : M ≤ 900000000) (hL : L.length < 900000) (x : Ac) (hx : AcW x) :
    Calls Try.prog 12 #[.pointer (some ⟨t, 0, none⟩), .agg #[.int .i64 x.k, .int .i64 x.id, .int .i64 x.kf, .int .i64 x.ki, .int .i64 x.pl, .int .i64 x.n]] (w.alloc (.cells #[.int .i64 x.k, .int .i64 x.id, .int .i64 x.kf, .int .i64 x.ki, .int .i64 x.pl, .int .i64 x.n] 34)) fun e w' =>
      e = .returned (.tuple #[.int .i64 (doN L x), .int .i64 (doE L x)]) ∧ (∃ S, Tb w0 w' t S (doL L x)) ∧ RefIs B w' rr L ∧ RowAt w' w.heap.size 34 (acCells x) ∧ B ≤ w'.heap.size := by
  obtain ⟨S, hS⟩ := h.tb
  have hb := below_alloc w (.cells #[.int .i64 x.k, .int .i64 x.id, .int .i64 x.kf, .int .i64 x.ki, .int .i64 x.pl, .int .i64 x.n] 34)
  have h1 := I.later hS hb
  refine (doI I h1 hO hM hL x hx).mono ?_
  rintro e w' ⟨he, S', g1, g2, -⟩
  refine ⟨he, ⟨S', g1⟩, (h.rf.below hb).kp (g2.kpd fun k o hk ho => I.dob h1 hk ho), g2.row (RowAt.new w (acCells x).toArray 34) (fun hs => ?_), ?_⟩
  · have := I.lt hS hs; omega
  · have := h.hi
    have := hb.size
    have := g2.size
    omega
/-- The same act done by the document's, too. -/
theorem Bo.doc (I : TbI Tb) (h : ∃ S, Tb w0 w t S L) (hr : RefIs B w' rr L) (hb : Below B w w') (hk : Kp pob w w') (h1 : w0.heap.size ≤ B) (h2 : B ≤ w.heap.size) : Bo Tb w0 w' t rr B L := by
  obtain ⟨S, hS⟩ := h
  refine ⟨⟨S, I.keep hS ((I.bel hS).trans (hb.mono h1)) hk.size fun k hs => ?_⟩, hr, h1, Nat.le_trans h2 hk.size⟩
  have hl := I.lt hS hs
  have e : w.heap[k]? = some w.heap[k] := Array.getElem?_eq_getElem hl
  have := I.dob hS hs e
  rw [e]
  exact hk.block k _ (by simp [pob, this]) e
end
/-- The cells of an act's box. -/
theorem act_cells {w : World} {q : Nat} {x : Ac} (h : RowAt w q 34 (acCells x)) : w.cell? ⟨q, 0, none⟩ = some (.int .i64 x.k) ∧ w.cell? ⟨q, 1, none⟩ = some (.int .i64 x.id) ∧ w.cell? ⟨q, 2, none⟩ = some (.int .i64 x.kf) ∧ w.cell? ⟨q, 3, none⟩ = some (.int .i64 x.ki) ∧ w.cell? ⟨q, 4, none⟩ = some (.int .i64 x.pl) ∧ w.cell? ⟨q, 5, none⟩ = some (.int .i64 x.n) :=
  ⟨by rw [h.cell]; rfl, by rw [h.cell]; rfl, by rw [h.cell]; rfl, by rw [h.cell]; rfl, by rw [h.cell]; rfl, by rw [h.cell]; rfl⟩
end Go.Proofs.Ytponlldgnlckfaa
