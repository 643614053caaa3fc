/-
  The document's store told: sizes, what was written in its order; the contract of Has.
-/
import Derived.Test.YtmemciebpnamkaaActs
import Derived.Laws.OwnMore
namespace Go.Proofs.Ytmemciebpnamkaa
open Go.RowKit

/-- A slice of a block of its own. -/
theorem own_form {w : World} {B e c n : Nat} {v : Value} {xs : List Value} (h : w.ownsRow B e c v n xs) :
    ∃ a cap, v = .slice a n cap ∧ (0 < n → ∃ g, a = some ⟨g, 0, none⟩ ∧ ∀ j, j < n * c → w.cell? ⟨g, j, none⟩ = xs[j]?) := by
  rcases h.2 with ⟨rfl, rfl⟩ | ⟨g, cap, cur, rfl, _⟩
  · exact ⟨none, 0, rfl, fun h => by omega⟩
  · exact ⟨_, cap, rfl, fun _ => ⟨g, rfl, fun j hj => h.cellAt j hj⟩⟩
theorem own_turn {w w' : World} {B e c n : Nat} {v : Value} {xs : List Value} (h : w.ownsRow B e c v n xs) (hb : ∀ k, B ≤ k → k < w.heap.size → w'.heap[k]? = w.heap[k]?) : w'.ownsRow B e c v n xs := by
  refine ⟨h.1, ?_⟩
  rcases h.2 with hn | ⟨g, cap, cur, rfl, hg, hgg, rest⟩
  · exact .inl hn
  · exact .inr ⟨g, cap, cur, rfl, hg, (hb g hg (lt_of_block hgg)).trans hgg, rest⟩

def flat (L : List Ent) : List Value := L.flatMap entCells
theorem flat_len (L : List Ent) : (flat L).length = L.length * 3 := by
  unfold flat
  induction L with
  | nil => rfl
  | cons e L ih => rw [List.flatMap_cons, List.length_append, ih, List.length_cons]; simp [entCells]; omega
theorem flat_snoc (L : List Ent) (e : Ent) : flat (L ++ [e]) = flat L ++ entCells e := by simp [flat]
theorem flat_at (L : List Ent) (j i : Nat) (hj : j < L.length) (hi : i < 3) : (flat L)[j * 3 + i]? = (entCells L[j])[i]? := by
  induction L generalizing j with
  | nil => simp at hj
  | cons e L ih =>
    cases j with
    | zero =>
      show (entCells e ++ flat L)[0 * 3 + i]? = _
      rw [Nat.zero_mul, Nat.zero_add, List.getElem?_append_left (by simpa [entCells] using hi)]
      rfl
    | succ j =>
      show (entCells e ++ flat L)[(j + 1) * 3 + i]? = _
      have hl : (entCells e).length = 3 := rfl
      rw [List.getElem?_append_right (by omega), hl]
      have : (j + 1) * 3 + i - 3 = j * 3 + i := by omega
      rw [this, ih j (by simpa using hj)]
      simp

/-- The document's store at block r, all that it has from block B on. -/
structure RefIs (w : World) (B r : Nat) (S : List Nat) (L : List Ent) (vs vl : Value) : Prop where
  h : RowAt w r 34 [vs, vl]
  s : w.ownsRow B 3 1 vs S.length (S.map iv)
  l : w.ownsRow B 53 3 vl L.length (flat L)
  lo : B ≤ r
  le : S.length ≤ 32
  sz : ∀ k, S.getD k 0 ≤ 4096
section
variable {w w' : World} {B r : Nat} {S : List Nat} {L : List Ent} {vs vl : Value}
theorem RefIs.c0 (h : RefIs w B r S L vs vl) : w.cell? ⟨r, 0, none⟩ = some vs := by rw [h.h.cell]; rfl
theorem RefIs.c1 (h : RefIs w B r S L vs vl) : w.cell? ⟨r, 1, none⟩ = some vl := by rw [h.h.cell]; rfl
theorem RefIs.kept (h : RefIs w B r S L vs vl) (hb : ∀ k, B ≤ k → k < w.heap.size → w'.heap[k]? = w.heap[k]?) : RefIs w' B r S L vs vl :=
  ⟨by have := h.h; unfold RowAt at this ⊢; rw [hb r h.lo h.h.lt]; exact this, own_turn h.s hb, own_turn h.l hb, h.lo, h.le, h.sz⟩
theorem RefIs.below (h : RefIs w B r S L vs vl) (hb : Below w.heap.size w w') : RefIs w' B r S L vs vl := h.kept fun k _ hk => hb.block k hk
theorem RefIs.alloc (h : RefIs w B r S L vs vl) (o : Obj) : RefIs (w.alloc o) B r S L vs vl := h.below (below_alloc _ _)
theorem RefIs.drewN (h : RefIs w B r S L vs vl) (n : Nat) : RefIs (w.drewN n) B r S L vs vl := h.kept fun _ _ _ => rfl
theorem RefIs.at (h : RefIs w B r S L vs vl) {k : Nat} (hk : k < S.length) : ∃ g cap, vs = .slice (some ⟨g, 0, none⟩) S.length cap ∧ w.cell? ⟨g, k, none⟩ = some (.int .i64 (S.getD k 0 : Nat)) := by
  obtain ⟨a, cap, rfl, h1⟩ := own_form h.s
  obtain ⟨g, rfl, h2⟩ := h1 (by omega)
  exact ⟨g, cap, rfl, by rw [h2 k (by omega)]; simp [iv, hk]⟩
theorem RefIs.ent (h : RefIs w B r S L vs vl) {k : Nat} (hk : k < L.length) : ∃ g cap, vl = .slice (some ⟨g, 0, none⟩) L.length cap ∧ w.cell? ⟨g, k * 3, none⟩ = some (.int .i64 L[k].f) ∧ w.cell? ⟨g, k * 3 + 1, none⟩ = some (.int .i64 L[k].i) ∧ w.cell? ⟨g, k * 3 + 2, none⟩ = some (.string ⟨L[k].t.toArray⟩) := by
  obtain ⟨a, cap, rfl, h1⟩ := own_form h.l
  obtain ⟨g, rfl, h2⟩ := h1 (by omega)
  refine ⟨g, cap, rfl, ?_, ?_, ?_⟩
  · have := flat_at L k 0 hk (by omega)
    rw [Nat.add_zero] at this
    rw [h2 _ (by omega), this]; rfl
  · rw [h2 _ (by omega), flat_at L k 1 hk (by omega)]; rfl
  · rw [h2 _ (by omega), flat_at L k 2 hk (by omega)]; rfl
theorem RefIs.lenS (h : RefIs w B r S L vs vl) : ∃ a cap, vs = .slice a S.length cap := by
  obtain ⟨a, cap, rfl, _⟩ := own_form h.s
  exact ⟨a, cap, rfl⟩
theorem RefIs.lenL (h : RefIs w B r S L vs vl) : ∃ a cap, vl = .slice a L.length cap := by
  obtain ⟨a, cap, rfl, _⟩ := own_form h.l
  exact ⟨a, cap, rfl⟩
end

set_option maxHeartbeats 1000000 in
theorem rhas (B r : Nat) (S : List Nat) (L : List Ent) (vs vl : Value) (f i : Int) (w : World) (h : RefIs w B r S L vs vl) :
    Calls Try.prog 20 #[.pointer (some ⟨r, 0, none⟩), .agg #[.int .i64 f, .int .i64 i]] w fun e w' => e = .returned (.bool (hasK S f i)) ∧ Below w.heap.size w w' := by
  have hle := h.le
  by_cases h0 : f < 0
  · have HP : Hid (hasK S f i = false) := by show _ = _; simp only [hasK, sizeK_low h0]; cases hq : decide (0 ≤ i) <;> simp at hq ⊢; omega
    have hd : decide (0 ≤ f) = false := by simp; omega
    go_enter Try.func20, Try.ntmps20
    go_wp2
    go_quiet (fail)
    go_wp2
    go_ret
    exact ⟨by rw [HP.out]; rfl, below_drawn (below_alloc _ _) _⟩
  · have hd0 : decide (0 ≤ f) = true := by simp; omega
    obtain ⟨k, rfl⟩ := Int.eq_ofNat_of_zero_le (by omega : 0 ≤ f)
    by_cases h1 : k < S.length
    · have hd1 : decide ((k : Int) < (S.length : Int)) = true := by simp; omega
      by_cases h2 : i < 0
      · have HP : Hid (hasK S k i = false) := by show _ = _; simp [hasK]; omega
        have hd2 : decide (0 ≤ i) = false := by simp; omega
        obtain ⟨a, cap, rfl⟩ := h.lenS
        have hc : (w.alloc (.cells #[.int .i64 k, .int .i64 i] 25)).cell? ⟨r, 0, none⟩ = some (.slice a S.length cap) := (h.alloc _).c0
        go_enter Try.func20, Try.ntmps20
        go_wp2
        go_quiet (fail)
        go_wp2
        go_ret
        exact ⟨by rw [HP.out]; rfl, below_drawn (below_alloc _ _) _⟩
      · have hd2 : decide (0 ≤ i) = true := by simp; omega
        obtain ⟨g, cap, rfl, hg⟩ := (h.alloc (.cells #[.int .i64 k, .int .i64 i] 25)).at h1
        have hc : (w.alloc (.cells #[.int .i64 k, .int .i64 i] 25)).cell? ⟨r, 0, none⟩ = some (.slice (some ⟨g, 0, none⟩) S.length cap) := (h.alloc _).c0
        obtain ⟨x, hx⟩ : ∃ x : Int, x = (S.getD k 0 : Nat) := ⟨_, rfl⟩
        rw [← hx] at hg
        have HP : Hid (hasK S k i = decide (i < x)) := by
          show _ = _
          have h3 : 0 ≤ i := by omega
          simp only [hasK, h3, decide_true, Bool.true_and, sizeK_nat h1]
          rw [hx]
        clear hx
        go_enter Try.func20, Try.ntmps20
        go_wp2
        go_quiet (fail)
        go_wp2
        go_ret
        exact ⟨by rw [HP.out]; rfl, below_drawn (below_alloc _ _) _⟩
    · have hd1 : decide ((k : Int) < (S.length : Int)) = false := by simp; omega
      have HP : Hid (hasK S k i = false) := by show _ = _; simp only [hasK, sizeK_high (S := S) (f := k) (by omega)]; cases hq : decide (0 ≤ i) <;> simp at hq ⊢; omega
      obtain ⟨a, cap, rfl⟩ := h.lenS
      have hc : (w.alloc (.cells #[.int .i64 k, .int .i64 i] 25)).cell? ⟨r, 0, none⟩ = some (.slice a S.length cap) := (h.alloc _).c0
      go_enter Try.func20, Try.ntmps20
      go_wp2
      go_quiet (fail)
      go_wp2
      go_ret
      exact ⟨by rw [HP.out]; rfl, below_drawn (below_alloc _ _) _⟩
end Go.Proofs.Ytmemciebpnamkaa
