/-
  The program's table with boxes of pages beside it; each call's contract on them.
-/
import Derived.Test.YtponlldgnlckfaaOpen
namespace Go.Proofs.Ytponlldgnlckfaa
open Go.RowKit

/-- Boxes beside the table: blocks that are not its own. -/
def St (Tb : World → World → Nat → (Nat → Prop) → List Pg → Prop) (w0 w : World) (t : Nat) (L : List Pg) (bs : List (Nat × Pg)) : Prop :=
  (∃ S, Tb w0 w t S L ∧ ∀ b ∈ bs, RowAt w b.1 45 (pc b.2).toList ∧ ¬ S b.1 ∧ w0.heap.size ≤ b.1) ∧ (bs.map Prod.fst).Nodup
/-- Behind a call that turns the table. -/
theorem St.turn {Tb : World → World → Nat → (Nat → Prop) → List Pg → Prop} {w0 w w' : World} {t : Nat} {bs : List (Nat × Pg)} {S S' : Nat → Prop} {L' : List Pg} (h2 : ∀ b ∈ bs, RowAt w b.1 45 (pc b.2).toList ∧ ¬ S b.1 ∧ w0.heap.size ≤ b.1) (g1 : Tb w0 w' t S' L') (g2 : Out S w w') (g3 : ∀ k, S' k → S k ∨ w.heap.size ≤ k) (hn : (bs.map Prod.fst).Nodup) : St Tb w0 w' t L' bs :=
  ⟨⟨S', g1, fun b hm => ⟨g2.row (h2 b hm).1 (h2 b hm).2.1, fun hs => (g3 _ hs).elim (h2 b hm).2.1 (fun hle => by have := (h2 b hm).1.lt; omega), (h2 b hm).2.2⟩⟩, hn⟩
section
variable {Tb : World → World → Nat → (Nat → Prop) → List Pg → Prop} {w0 w w' : World} {t : Nat} {L : List Pg} {M : Int} {bs : List (Nat × Pg)}
theorem St.bel (I : TbI Tb) (h : St Tb w0 w t L bs) : Below w0.heap.size w0 w := by
  obtain ⟨⟨S, h1, -⟩, -⟩ := h
  exact I.bel h1
theorem St.later (I : TbI Tb) (h : St Tb w0 w t L bs) (hb : Below w.heap.size w w') : St Tb w0 w' t L bs := by
  obtain ⟨⟨S, h1, h2⟩, hn⟩ := h
  exact ⟨⟨S, I.later h1 hb, fun b hm => ⟨(h2 b hm).1.below hb (h2 b hm).1.lt, (h2 b hm).2⟩⟩, hn⟩
theorem St.box (I : TbI Tb) (h : St Tb w0 w t L bs) (x : Pg) : St Tb w0 (w.alloc (.cells (pc x) 45)) t L ((w.heap.size, x) :: bs) := by
  obtain ⟨⟨S, h1, h2⟩, hn⟩ := h
  have hb := below_alloc w (.cells (pc x) 45)
  refine ⟨⟨S, I.later h1 hb, fun b hm => ?_⟩, ?_⟩
  case refine_2 =>
    rw [List.map_cons, List.nodup_cons]
    refine ⟨fun hm => ?_, hn⟩
    obtain ⟨b, hb1, hb2⟩ := List.mem_map.1 hm
    have := (h2 b hb1).1.lt
    omega
  rcases List.mem_cons.1 hm with rfl | hm
  · exact ⟨RowAt.new w (pc x) 45, fun hs => by have := I.lt h1 hs; simp at this, (I.bel h1).size⟩
  · exact ⟨(h2 b hm).1.below hb (h2 b hm).1.lt, (h2 b hm).2⟩
theorem St.new (I : TbI Tb) (hb : Below w0.heap.size w0 w) : Calls Try.prog 11 #[] w fun e w' => ∃ t, e = .returned (.pointer (some ⟨t, 0, none⟩)) ∧ St Tb w0 w' t [] [] :=
  (I.new hb).mono fun _ _ ⟨t, S, h1, h2, _⟩ => ⟨t, h1, ⟨S, h2, fun _ hm => absurd hm List.not_mem_nil⟩, List.nodup_nil⟩
/-- What Get answers, cell by cell. -/
theorem St.get (I : TbI Tb) (h : St Tb w0 w t L bs) {id : Int} (hi : (Lit.int .i64 id).wf = true) : ∃ x, x = getL L id ∧
    Calls Try.prog 19 #[.pointer (some ⟨t, 0, none⟩), .int .i64 id] w fun e w' => e = .returned (.tuple #[.agg #[.int .i64 x.kf, .int .i64 x.ki, .int .i64 x.pl, .int .i64 x.at', .int .i64 x.ow, .int .i64 x.rf, .int .i64 0, .bool false, .bool x.dr], .int .i64 (getE L id)]) ∧ St Tb w0 w' t L bs := by
  have h0 := h
  obtain ⟨⟨S, h1, -⟩, -⟩ := h0
  exact ⟨_, rfl, (I.get h1 hi).mono fun _ _ ⟨e, hb⟩ => ⟨e, h.later I hb⟩⟩
theorem St.doI (I : TbI Tb) (h : St Tb w0 w t L bs) (hO : Ok M L) (hM : M ≤ 900000000) (hL : L.length < 900000) (r : Ac) (hr : AcW r) :
    Calls Try.prog 12 #[.pointer (some ⟨t, 0, none⟩), .agg #[.int .i64 r.k, .int .i64 r.id, .int .i64 r.kf, .int .i64 r.ki, .int .i64 r.pl, .int .i64 r.n]] w fun e w' => e = .returned (.tuple #[.int .i64 (doN L r), .int .i64 (doE L r)]) ∧ St Tb w0 w' t (doL L r) bs := by
  obtain ⟨⟨S, h1, h2⟩, hn⟩ := h
  exact (Ytponlldgnlckfaa.doI I h1 hO hM hL r hr).mono fun _ _ ⟨e, S', g1, g2, g3⟩ => ⟨e, St.turn h2 g1 g2 g3 hn⟩
theorem St.put (I : TbI Tb) (h : St Tb w0 w t L bs) (hO : Ok M L) (hM : M ≤ 900000000) (hL : L.length < 900000) {id p a : Int} (h3 : (Lit.int .i64 id).wf = true) (h4 : (Lit.int .i64 p).wf = true) (h5 : (Lit.int .i64 a).wf = true) :
    Calls Try.prog 29 #[.pointer (some ⟨t, 0, none⟩), .int .i64 id, .int .i64 p, .int .i64 a] w fun e w' => e = .returned (.int .i64 (putE L id p a)) ∧ St Tb w0 w' t (putL L id p a) bs := by
  obtain ⟨⟨S, h1, h2⟩, hn⟩ := h
  exact (I.put h1 hO hM hL h3 h4 h5).mono fun _ _ ⟨e, S', g1, g2, g3⟩ => ⟨e, St.turn h2 g1 g2 g3 hn⟩
theorem St.ref (I : TbI Tb) (h : St Tb w0 w t L bs) (hO : Ok M L) (hM : M ≤ 900000000) (hL : L.length < 900000) {id n : Int} (h3 : (Lit.int .i64 id).wf = true) (h4 : (Lit.int .i64 n).wf = true) :
    Calls Try.prog 31 #[.pointer (some ⟨t, 0, none⟩), .int .i64 id, .int .i64 n] w fun e w' => e = .returned (.tuple #[.int .i64 (refN L id n), .int .i64 (refE L id n)]) ∧ St Tb w0 w' t (refL L id n) bs := by
  obtain ⟨⟨S, h1, h2⟩, hn⟩ := h
  exact (I.ref h1 hO hM hL h3 h4).mono fun _ _ ⟨e, S', g1, g2, g3⟩ => ⟨e, St.turn h2 g1 g2 g3 hn⟩
theorem St.drop (I : TbI Tb) (h : St Tb w0 w t L bs) (hO : Ok M L) (hM : M ≤ 900000000) (hL : L.length < 900000) {id : Int} (h3 : (Lit.int .i64 id).wf = true) :
    Calls Try.prog 32 #[.pointer (some ⟨t, 0, none⟩), .int .i64 id] w fun e w' => e = .returned (.int .i64 (dropE L id)) ∧ St Tb w0 w' t (dropL L id) bs := by
  obtain ⟨⟨S, h1, h2⟩, hn⟩ := h
  exact (I.drop h1 hO hM hL h3).mono fun _ _ ⟨e, S', g1, g2, g3⟩ => ⟨e, St.turn h2 g1 g2 g3 hn⟩
theorem St.make (I : TbI Tb) (h : St Tb w0 w t L bs) (hO : Ok M L) (hM : M ≤ 900000000) (hL : L.length < 900000) {f i o : Int} (h3 : (Lit.int .i64 f).wf = true) (h4 : (Lit.int .i64 i).wf = true) (h5 : (Lit.int .i64 o).wf = true) :
    Calls Try.prog 30 #[.pointer (some ⟨t, 0, none⟩), .agg #[.int .i64 f, .int .i64 i], .int .i64 o] w fun e w' => e = .returned (.tuple #[.int .i64 (makeR L f i), .int .i64 (makeE L f i)]) ∧ St Tb w0 w' t (makeL L f i o) bs := by
  obtain ⟨⟨S, h1, h2⟩, hn⟩ := h
  exact (I.make h1 hO hM hL h3 h4 h5).mono fun _ _ ⟨e, S', g1, g2, g3⟩ => ⟨e, St.turn h2 g1 g2 g3 hn⟩
theorem St.own (I : TbI Tb) (h : St Tb w0 w t L bs) (hO : Ok M L) (hM : M ≤ 900000000) (hL : L.length < 900000) {id o : Int} (h3 : (Lit.int .i64 id).wf = true) (h4 : (Lit.int .i64 o).wf = true) :
    Calls Try.prog 33 #[.pointer (some ⟨t, 0, none⟩), .int .i64 id, .int .i64 o] w fun e w' => e = .returned (.int .i64 (getE L id)) ∧ St Tb w0 w' t (ownL L id o) bs := by
  obtain ⟨⟨S, h1, h2⟩, hn⟩ := h
  exact (I.own h1 hO hM hL h3 h4).mono fun _ _ ⟨e, S', g1, g2, g3⟩ => ⟨e, St.turn h2 g1 g2 g3 hn⟩
theorem St.mark (I : TbI Tb) (h : St Tb w0 w t L bs) (hO : Ok M L) (hM : M ≤ 900000000) (hL : L.length < 900000) {id : Int} {d : Bool} (h3 : (Lit.int .i64 id).wf = true) :
    Calls Try.prog 34 #[.pointer (some ⟨t, 0, none⟩), .int .i64 id, .bool d] w fun e w' => e = .returned (.int .i64 (getE L id)) ∧ St Tb w0 w' t (markL L id d) bs := by
  obtain ⟨⟨S, h1, h2⟩, hn⟩ := h
  exact (I.mark h1 hO hM hL h3).mono fun _ _ ⟨e, S', g1, g2, g3⟩ => ⟨e, St.turn h2 g1 g2 g3 hn⟩
theorem St.all (I : TbI Tb) (h : St Tb w0 w t L bs) (hL : L.length < 900000) :
    Calls Try.prog 26 #[.pointer (some ⟨t, 0, none⟩)] w fun e w' => ∃ a cap, e = .returned (.slice a (idsL L (anyP true 0)).length cap) ∧ Ints w' a (idsL L (anyP true 0)) ∧ (∀ p, a = some p → w.heap.size ≤ p.block) ∧ St Tb w0 w' t L bs ∧ Below w.heap.size w w' := by
  have h0 := h
  obtain ⟨⟨S, h1, -⟩, -⟩ := h0
  exact (I.all h1 hL).mono fun _ _ ⟨a, cap, e, hi, hp, hb⟩ => ⟨a, cap, e, hi, hp, h.later I hb, hb⟩
theorem St.att (I : TbI Tb) (h : St Tb w0 w t L bs) {p a : Int} (h3 : (Lit.int .i64 p).wf = true) (h4 : (Lit.int .i64 a).wf = true) :
    Calls Try.prog 23 #[.pointer (some ⟨t, 0, none⟩), .int .i64 p, .int .i64 a] w fun e w' => e = .returned (.int .i64 (atL L p a)) ∧ St Tb w0 w' t L bs := by
  have h0 := h
  obtain ⟨⟨S, h1, -⟩, -⟩ := h0
  exact (I.att h1 h3 h4).mono fun _ _ ⟨e, hb⟩ => ⟨e, h.later I hb⟩
end
/-- A box's cells, and that they may be written. -/
theorem page_cells {w : World} {q : Nat} {x : Pg} (h : RowAt w q 45 (pc x).toList) : w.cell? ⟨q, 0, none⟩ = some (.int .i64 x.kf) ∧ w.cell? ⟨q, 1, none⟩ = some (.int .i64 x.ki) ∧ w.cell? ⟨q, 2, none⟩ = some (.int .i64 x.pl) ∧ w.cell? ⟨q, 3, none⟩ = some (.int .i64 x.at') ∧ w.cell? ⟨q, 4, none⟩ = some (.int .i64 x.ow) ∧ w.cell? ⟨q, 5, none⟩ = some (.int .i64 x.rf) ∧ w.cell? ⟨q, 6, none⟩ = some (.int .i64 0) ∧ w.cell? ⟨q, 7, none⟩ = some (.bool false) ∧ w.cell? ⟨q, 8, none⟩ = some (.bool x.dr) :=
  ⟨by rw [h.cell]; rfl, by rw [h.cell]; rfl, by rw [h.cell]; rfl, by rw [h.cell]; rfl, by rw [h.cell]; rfl, by rw [h.cell]; rfl, by rw [h.cell]; rfl, by rw [h.cell]; rfl, by rw [h.cell]; rfl⟩
theorem eqP (f i p a o r : Int) (d : Bool) (w : World) : (Op.equalIn 10000 45 (.agg #[.int .i64 f, .int .i64 i, .int .i64 p, .int .i64 a, .int .i64 o, .int .i64 r, .int .i64 0, .bool false, .bool d]) (.agg #[.int .i64 f, .int .i64 i, .int .i64 p, .int .i64 a, .int .i64 o, .int .i64 r, .int .i64 0, .bool false, .bool d])).run Try.prog w = .ok true w :=
  eq45_same ⟨f, i, p, a, o, r, d, false⟩ w
end Go.Proofs.Ytponlldgnlckfaa
