/-
  The program's table and the document's side by side.
-/
import Derived.Test.YtaecacbapeogdaaR4
namespace Go.Proofs.Ytaecacbapeogdaa
open Go.RowKit

/-- Both tables, made since w0. -/
def Bo (w0 w : World) (t : Nat) (W : Tab) (n m : Nat) (r : Nat) (D : Ws) : Prop :=
  ∃ N v, TabIs w t N W n m ∧ RefIs w w0.heap.size r D v ∧ Below w0.heap.size w0 w ∧ (∀ b, In N b → w0.heap.size ≤ b) ∧ Rise D ∧ (∀ e ∈ D, e.1 < 65536)
section
variable {w0 w w' : World} {t r : Nat} {W : Tab} {n m : Nat} {D : Ws}
theorem Bo.tb (h : Bo w0 w t W n m r D) : Tb w0 w t W n m := by
  obtain ⟨N, v, h1, h2, h3, h4, h5, h6⟩ := h
  exact ⟨N, h1, h3, h4⟩
theorem Bo.bel (h : Bo w0 w t W n m r D) : Below w0.heap.size w0 w := h.tb.bel
theorem Bo.rise (h : Bo w0 w t W n m r D) : Rise D := by obtain ⟨N, v, h1, h2, h3, h4, h5, h6⟩ := h; exact h5
theorem Bo.grow (h : Bo w0 w t W n m r D) (hb : Below w.heap.size w w') : Bo w0 w' t W n m r D := by
  obtain ⟨N, v, h1, h2, h3, h4, h5, h6⟩ := h
  exact ⟨N, v, h1.below hb, h2.below hb, h3.trans (hb.mono h3.size), h4, h5, h6⟩
theorem Bo.drewN (h : Bo w0 w t W n m r D) (d : Nat) : Bo w0 (w.drewN d) t W n m r D := by
  obtain ⟨N, v, h1, h2, h3, h4, h5, h6⟩ := h
  exact ⟨N, v, h1.drewN d, h2.drewN d, below_drawn h3 d, h4, h5, h6⟩
theorem Bo.cell (h : Bo w0 w t W n m r D) : ∃ a cap, w.cell? ⟨r, 0, none⟩ = some (.slice a D.length cap) := by
  obtain ⟨N, v, h1, h2, h3, h4, h5, h6⟩ := h
  obtain ⟨a, cap, rfl⟩ := h2.len
  exact ⟨a, cap, h2.c0⟩
theorem Bo.length (h : Bo w0 w t W n m r D) (hW : lookD D = W) : D.length = n := by
  have h5 := h.rise
  have : IsCnt (fun p => W p ≠ none) D.length := by
    refine ⟨D.map (·.1), ?_, by simp, fun p => ?_⟩
    · have : (D.map (·.1)).Pairwise (· < ·) := List.pairwise_map.2 h5
      exact this.imp fun h => Nat.ne_of_lt h
    · show _ ↔ W p ≠ none
      rw [← hW, lookD_ne h5, List.mem_map]
      constructor
      · rintro ⟨⟨q, x⟩, hm, rfl⟩; exact ⟨x, hm⟩
      · rintro ⟨x, hx⟩; exact ⟨(p, x), hx, rfl⟩
  exact this.unique h.tb.cnt.n fun _ => Iff.rfl
theorem bo_new (h : Tb w0 w t W n m) : Bo w0 (w.alloc (.cells #[.slice none 0 0] 29)) t W n m w.heap.size [] := by
  obtain ⟨N, h1, h2, h3⟩ := h
  refine ⟨N, .slice none 0 0, h1.below (below_alloc _ _), ⟨RowAt.new w _ 29, World.ownsRow_nil _ _ _ _, h2.size⟩, h2.trans ((below_alloc _ _).mono h2.size), h3, List.Pairwise.nil, fun _ h => (by cases h)⟩
theorem bset (x v : Int) (h : Bo w0 w t W n m r D) (hn : n < 100000) :
    Calls Try.prog 14 #[.pointer (some ⟨t, 0, none⟩), .int .i64 x, .int .u64 v] w fun e w' => ∃ n' m', e = .returned (.int .i64 (setE x)) ∧ Bo w0 w' t (setI W x v) n' m' r D ∧ n' ≤ n + 1 := by
  obtain ⟨N, u, h1, h2, h3, h4, h5, h6⟩ := h
  refine (pset t N W n m x v hn w h1).mono fun e w' ⟨N', n', m', k1, k2, k3, k4, k5⟩ => ⟨n', m', k1, ⟨N', u, k2, h2.tab h1.heap k4, h3.trans (k4.below h4 h3.size), ?_, h5, h6⟩, k3⟩
  intro b hb
  rcases k5 b hb with h7 | h7
  · exact h4 b h7
  · exact Nat.le_trans h3.size h7
theorem bdrop (x : Int) (h : Bo w0 w t W n m r D) (hn : n < 100000) :
    Calls Try.prog 12 #[.pointer (some ⟨t, 0, none⟩), .int .i64 x] w fun e w' => ∃ n' m', e = .returned (.bool (getB W x)) ∧ Bo w0 w' t (delI W x) n' m' r D ∧ n' ≤ n := by
  obtain ⟨N, u, h1, h2, h3, h4, h5, h6⟩ := h
  exact (pdropT t N W n m x hn w h1).mono fun e w' ⟨N', n', m', k1, k2, k3, k4, k5⟩ => ⟨n', m', k1, ⟨N', u, k2, h2.tab h1.heap k4, h3.trans (k4.below h4 h3.size), fun b hb => h4 b (k5 b hb), h5, h6⟩, k3⟩
/-- The document's turns leave the program's table. -/
theorem tab_ref {N : Nds} {D : Ws} {v : Value} {B : Nat} (h1 : TabIs w t N W n m) (h2 : RefIs w B r D v) (hT : Turn (fun k => k = r) w w') : TabIs w' t N W n m := by
  refine ⟨h1.heap.turn hT fun j q b hb e => ?_, h1.dom, h1.cnt⟩
  subst e
  have h3 := h1.heap.row j q b hb
  have h4 := h2.h
  unfold RowAt at h3 h4
  rw [h3] at h4
  injection h4 with h4
  injection h4 with _ h4
  unfold ty at h4
  split at h4 <;> cases h4
theorem brset (x v : Int) (h : Bo w0 w t W n m r D) (hD : D.length < 90000) :
    Calls Try.prog 15 #[.pointer (some ⟨r, 0, none⟩), .int .i64 x, .int .u64 v] w fun e w' => ∃ D', e = .returned (.int .i64 (setE x)) ∧ Bo w0 w' t W n m r D' ∧ lookD D' = setI (lookD D) x v ∧ D'.length ≤ D.length + 1 := by
  obtain ⟨N, u, h1, h2, h3, h4, h5, h6⟩ := h
  exact (rset w0.heap.size r D u x v w h2 h3.size h5 h6 hD).mono fun e w' ⟨v', D', k1, k2, k3, k4, k5, k6, k7⟩ => ⟨D', k1, ⟨N, v', tab_ref h1 h2 k7, k2, h3.trans (k7.below (fun k hk => by rw [hk]; exact h2.lo) h3.size), h4, k3, k4⟩, k5, k6⟩
theorem brdrop (x : Int) (h : Bo w0 w t W n m r D) (hD : D.length < 90000) :
    Calls Try.prog 13 #[.pointer (some ⟨r, 0, none⟩), .int .i64 x] w fun e w' => ∃ D', e = .returned (.bool (getB (lookD D) x)) ∧ Bo w0 w' t W n m r D' ∧ lookD D' = delI (lookD D) x ∧ D'.length ≤ D.length := by
  obtain ⟨N, u, h1, h2, h3, h4, h5, h6⟩ := h
  exact (rdrop w0.heap.size r D u x w h2 h3.size h5 (by omega)).mono fun e w' ⟨v', k1, k2, k3⟩ => ⟨_, k1, ⟨N, v', tab_ref h1 h2 k3, k2, h3.trans (k3.below (fun k hk => by rw [hk]; exact h2.lo) h3.size), h4, dropD_rise h5 x, fun e he => h6 e (List.mem_filter.1 he).1⟩, dropD_look h5 h6 x, List.length_filter_le _ _⟩
theorem bget (x : Int) (h : Bo w0 w t W n m r D) :
    Calls Try.prog 16 #[.pointer (some ⟨t, 0, none⟩), .int .i64 x] w fun e w' => e = .returned (.tuple #[.int .u64 (getX W x), .bool (getB W x)]) ∧ Bo w0 w' t W n m r D :=
  (getO x h.tb).mono fun _ _ ⟨k1, _, k3⟩ => ⟨k1, h.grow k3⟩
theorem brget (x : Int) (h : Bo w0 w t W n m r D) (hD : D.length < 90000) :
    Calls Try.prog 17 #[.pointer (some ⟨r, 0, none⟩), .int .i64 x] w fun e w' => e = .returned (.tuple #[.int .u64 (getX (lookD D) x), .bool (getB (lookD D) x)]) ∧ w' = w := by
  obtain ⟨N, u, h1, h2, h3, h4, h5, h6⟩ := h
  exact rget w0.heap.size r D u x w h2 h5 (by omega)
theorem brnodes (h : Bo w0 w t W n m r D) (hW : lookD D = W) (hD : D.length < 10000) :
    Calls Try.prog 20 #[.pointer (some ⟨r, 0, none⟩)] w fun e w' => e = .returned (.int .i64 (1 + (m : Int))) ∧ Bo w0 w' t W n m r D := by
  have h' := h
  obtain ⟨N, u, h1, h2, h3, h4, h5, h6⟩ := h
  exact (rnodes w0.heap.size r D u n m w h2 h5 h6 hD (by rw [hW]; exact h1.cnt)).mono fun e w' ⟨k1, d, k2⟩ => ⟨k1, by rw [k2]; exact h'.drewN d⟩
theorem bwalk (a b : Int) (h : Bo w0 w t W n m r D) (hn : n < 100000) :
    Calls Try.prog 22 #[.pointer (some ⟨t, 0, none⟩), .int .i64 a, .int .i64 b] w fun e w' => ∃ v l B, e = .returned v ∧ IsWalk W a b l ∧ l.length ≤ n ∧ w'.ownsRow B 3 1 v l.length (l.map iv) ∧ Bo w0 w' t W n m r D :=
  (walkT a b h.tb hn).mono fun _ _ ⟨v, l, k1, k2, k3, k4, _, k6⟩ => ⟨v, l, _, k1, k2, k6, k3, h.grow k4⟩
theorem brwalk {v : Value} {l : List Nat} {B : Nat} (a b : Int) (h : Bo w0 w t W n m r D) (hD : D.length < 90000) (hW : lookD D = W) (hl : IsWalk W a b l) (hr : w.ownsRow B 3 1 v l.length (l.map iv)) :
    Calls Try.prog 23 #[.pointer (some ⟨r, 0, none⟩), .int .i64 a, .int .i64 b] w fun e w' => ∃ u B', e = .returned u ∧ w'.ownsRow B 3 1 v l.length (l.map iv) ∧ w'.ownsRow B' 3 1 u l.length (l.map iv) ∧ Bo w0 w' t W n m r D := by
  have h' := h
  obtain ⟨N, u, h1, h2, h3, h4, h5, h6⟩ := h
  have hu := hl.unique (by rw [← hW]; exact walkD_is h5 a b)
  refine (rwalk w0.heap.size r D u a b w h2 (by omega)).mono fun e w' ⟨z, k1, k2, k3⟩ => ⟨z, w.heap.size, k1, own_below hr k3, ?_, h'.grow k3⟩
  rw [hu]
  exact k2
theorem brow {va vb : Value} {l : List Nat} {B B' : Nat} (h : Bo w0 w t W n m r D) (hl : l.length < 1000000) (ha : w.ownsRow B 3 1 va l.length (l.map iv)) (hb : w.ownsRow B' 3 1 vb l.length (l.map iv)) :
    Calls Try.prog 21 #[va, vb] w fun e w' => e = .returned (.bool true) ∧ Bo w0 w' t W n m r D :=
  (prow B B' va vb l w hl ha hb).mono fun _ _ ⟨k1, d, k2⟩ => ⟨k1, by rw [k2]; exact h.drewN d⟩
/-! The same, with what they leave as it was. -/
theorem brnodesS (h : Bo w0 w t W n m r D) (hW : lookD D = W) (hD : D.length < 10000) :
    Calls Try.prog 20 #[.pointer (some ⟨r, 0, none⟩)] w fun e w' => e = .returned (.int .i64 (1 + (m : Int))) ∧ Bo w0 w' t W n m r D ∧ Below w.heap.size w w' := by
  have h' := h
  obtain ⟨N, u, h1, h2, h3, h4, h5, h6⟩ := h
  exact (rnodes w0.heap.size r D u n m w h2 h5 h6 hD (by rw [hW]; exact h1.cnt)).mono fun e w' ⟨k1, d, k2⟩ => ⟨k1, by rw [k2]; exact h'.drewN d, by rw [k2]; exact below_drawn (Below.refl _ _) d⟩
theorem bwalkS (a b : Int) (h : Bo w0 w t W n m r D) (hn : n < 100000) :
    Calls Try.prog 22 #[.pointer (some ⟨t, 0, none⟩), .int .i64 a, .int .i64 b] w fun e w' => ∃ v l B, e = .returned v ∧ IsWalk W a b l ∧ l.length ≤ n ∧ w'.ownsRow B 3 1 v l.length (l.map iv) ∧ Bo w0 w' t W n m r D ∧ Below w.heap.size w w' :=
  (walkT a b h.tb hn).mono fun _ _ ⟨v, l, k1, k2, k3, k4, _, k6⟩ => ⟨v, l, _, k1, k2, k6, k3, h.grow k4, k4⟩
theorem brwalkS {v : Value} {l : List Nat} {B : Nat} (a b : Int) (h : Bo w0 w t W n m r D) (hD : D.length < 90000) (hW : lookD D = W) (hl : IsWalk W a b l) (hr : w.ownsRow B 3 1 v l.length (l.map iv)) :
    Calls Try.prog 23 #[.pointer (some ⟨r, 0, none⟩), .int .i64 a, .int .i64 b] w fun e w' => ∃ u B', e = .returned u ∧ w'.ownsRow B 3 1 v l.length (l.map iv) ∧ w'.ownsRow B' 3 1 u l.length (l.map iv) ∧ Bo w0 w' t W n m r D ∧ Below w.heap.size w w' := by
  have h' := h
  obtain ⟨N, u, h1, h2, h3, h4, h5, h6⟩ := h
  have hu := hl.unique (by rw [← hW]; exact walkD_is h5 a b)
  refine (rwalk w0.heap.size r D u a b w h2 (by omega)).mono fun e w' ⟨z, k1, k2, k3⟩ => ⟨z, w.heap.size, k1, own_below hr k3, ?_, h'.grow k3, k3⟩
  rw [hu]
  exact k2
theorem browS {va vb : Value} {l : List Nat} {B B' : Nat} (h : Bo w0 w t W n m r D) (hl : l.length < 1000000) (ha : w.ownsRow B 3 1 va l.length (l.map iv)) (hb : w.ownsRow B' 3 1 vb l.length (l.map iv)) :
    Calls Try.prog 21 #[va, vb] w fun e w' => e = .returned (.bool true) ∧ Bo w0 w' t W n m r D ∧ Below w.heap.size w w' :=
  (prow B B' va vb l w hl ha hb).mono fun _ _ ⟨k1, d, k2⟩ => ⟨k1, by rw [k2]; exact h.drewN d, by rw [k2]; exact below_drawn (Below.refl _ _) d⟩
end
end Go.Proofs.Ytaecacbapeogdaa
