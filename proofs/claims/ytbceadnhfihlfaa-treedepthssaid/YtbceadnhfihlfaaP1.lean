/-
  The program's tree as it lies in memory; the contracts of Len, Live, Parent, New.
-/
import Derived.Test.YtbceadnhfihlfaaMath
import Derived.Test.YtbceadnhfihlfaaUp
import Derived.Test.YtbceadnhfihlfaaRows
import Derived.Laws.OwnMore
namespace Go.Proofs.Ytbceadnhfihlfaa
open Go.RowKit

theorem own_form {w : World} {B e c n : Nat} {v : Value} {xs : List Value} (h : w.ownsRow B e c v n xs) :
    ∃ a cap, v = .slice a n cap ∧ (0 < n → ∃ g, a = some ⟨g, 0, none⟩ ∧ ∀ j, j < n * c → w.cell? ⟨g, j, none⟩ = xs[j]?) := by
  rcases h.2 with ⟨rfl, rfl⟩ | ⟨g, cap, cur, rfl, _⟩
  · exact ⟨none, 0, rfl, fun h => by omega⟩
  · exact ⟨_, cap, rfl, fun _ => ⟨g, rfl, fun j hj => h.cellAt j hj⟩⟩
theorem own_turn {w w' : World} {B e c n : Nat} {v : Value} {xs : List Value} (h : w.ownsRow B e c v n xs) (hb : ∀ k cur, B ≤ k → w.heap[k]? = some (.cells cur e (0, 0)) → w'.heap[k]? = some (.cells cur e (0, 0))) : w'.ownsRow B e c v n xs := by
  refine ⟨h.1, ?_⟩
  rcases h.2 with hn | ⟨g, cap, cur, rfl, hg, hgg, rest⟩
  · exact .inl hn
  · exact .inr ⟨g, cap, cur, rfl, hg, hb g cur hg hgg, rest⟩
theorem own_below {w w' : World} {B e c n : Nat} {v : Value} {xs : List Value} (h : w.ownsRow B e c v n xs) (hb : Below w.heap.size w w') : w'.ownsRow B e c v n xs :=
  own_turn h fun k _ _ hk => (hb.block k (lt_of_block hk)).trans hk

/-- Only blocks of these types turn; more may be made. -/
structure Ty (C : TypeId → Bool) (w w' : World) : Prop where
  os : w'.os = w.os
  tape : w'.tape = w.tape
  output : w'.output = w.output
  size : w.heap.size ≤ w'.heap.size
  block : ∀ (k : Nat) (cur : Array Value) (t : TypeId), C t = false → w.heap[k]? = some (Obj.cells cur t (0, 0)) → w'.heap[k]? = some (Obj.cells cur t (0, 0))
theorem Ty.refl (C : TypeId → Bool) (w : World) : Ty C w w := ⟨rfl, rfl, rfl, Nat.le_refl _, fun _ _ _ _ h => h⟩
theorem Ty.trans {C : TypeId → Bool} {u v w : World} (h : Ty C u v) (k : Ty C v w) : Ty C u w :=
  ⟨k.os.trans h.os, k.tape.trans h.tape, k.output.trans h.output, Nat.le_trans h.size k.size, fun i cur t hC hi => k.block i cur t hC (h.block i cur t hC hi)⟩
theorem Ty.ofBelow {C : TypeId → Bool} {w w' : World} (h : Below w.heap.size w w') : Ty C w w' := ⟨h.os, h.tape, h.output, h.size, fun k _ _ _ hk => (h.block k (lt_of_block hk)).trans hk⟩
theorem RowAt.ty {C : TypeId → Bool} {w w' : World} {b : Nat} {t : TypeId} {vs : List Value} (h : RowAt w b t vs) (hT : Ty C w w') (hC : C t = false) : RowAt w' b t vs := hT.block b _ t hC h
theorem own_ty {C : TypeId → Bool} {w w' : World} {B e c n : Nat} {v : Value} {xs : List Value} (h : w.ownsRow B e c v n xs) (hT : Ty C w w') (hC : C e = false) : w'.ownsRow B e c v n xs :=
  own_turn h fun k cur _ hk => hT.block k cur e hC hk

def gp (p : Int × Bool) : List Value := [.int .i64 p.1, .bool p.2]
def gc (G : Gr) : List Value := G.flatMap gp
theorem gc_len (G : Gr) : (gc G).length = G.length * 2 := by
  unfold gc
  induction G with
  | nil => rfl
  | cons e G ih => rw [List.flatMap_cons, List.length_append, ih, List.length_cons]; simp [gp]; omega
theorem gc_snoc (G : Gr) (p : Int × Bool) : gc (G ++ [p]) = gc G ++ gp p := by simp [gc]
theorem gc_at (G : Gr) (j i : Nat) (hj : j < G.length) (hi : i < 2) : (gc G)[j * 2 + i]? = (gp G[j])[i]? := by
  induction G generalizing j with
  | nil => simp at hj
  | cons e G ih =>
    have hl : (gp e).length = 2 := rfl
    cases j with
    | zero =>
      show (gp e ++ gc G)[0 * 2 + i]? = _
      rw [Nat.zero_mul, Nat.zero_add, List.getElem?_append_left (by omega)]
      rfl
    | succ j =>
      show (gp e ++ gc G)[(j + 1) * 2 + i]? = _
      rw [List.getElem?_append_right (by omega), hl]
      have : (j + 1) * 2 + i - 2 = j * 2 + i := by omega
      rw [this, ih j (by simpa using hj)]
      simp
theorem gc_set (G : Gr) (j : Nat) (p : Int × Bool) (hj : j < G.length) : ((gc G).set (j * 2) (.int .i64 p.1)).set (j * 2 + 1) (.bool p.2) = gc (G.set j p) := by
  induction G generalizing j with
  | nil => simp at hj
  | cons e G ih =>
    cases j with
    | zero => rfl
    | succ j =>
      have e1 : (j + 1) * 2 = j * 2 + 1 + 1 := by omega
      have := ih j (by simpa using hj)
      show ((Value.int .i64 e.1 :: Value.bool e.2 :: gc G).set _ _).set _ _ = Value.int .i64 e.1 :: Value.bool e.2 :: gc (G.set j p)
      rw [e1, ← this]
      rfl

/-- The program's tree at block t, all that it has from block B on. -/
structure TreeIs (B : Nat) (w : World) (t : Nat) (G : Gr) : Prop where
  h : ∃ v, RowAt w t 51 [v] ∧ w.ownsRow B 48 2 v G.length (gc G)
  lo : B ≤ t
  ok : Ok G
section
variable {B : Nat} {w w' : World} {t : Nat} {G : Gr}
theorem TreeIs.below (h : TreeIs B w t G) (hb : Below w.heap.size w w') : TreeIs B w' t G := by
  obtain ⟨v, h1, h2⟩ := h.h
  exact ⟨⟨v, h1.below hb h1.lt, own_below h2 hb⟩, h.lo, h.ok⟩
theorem TreeIs.alloc (h : TreeIs B w t G) (o : Obj) : TreeIs B (w.alloc o) t G := h.below (below_alloc _ _)
theorem TreeIs.ty {C : TypeId → Bool} (h : TreeIs B w t G) (hT : Ty C w w') (h1 : C 51 = false) (h2 : C 48 = false) : TreeIs B w' t G := by
  obtain ⟨v, h3, h4⟩ := h.h
  exact ⟨⟨v, h3.ty hT h1, own_ty h4 hT h2⟩, h.lo, h.ok⟩
theorem TreeIs.open (h : TreeIs B w t G) : ∃ g cap, w.cell? ⟨t, 0, none⟩ = some (.slice (some ⟨g, 0, none⟩) G.length cap) ∧ w.frozen? ⟨t, 0, none⟩ = false ∧
    (∀ k (hk : k < G.length), w.cell? ⟨g, k * 2, none⟩ = some (.int .i64 G[k].1) ∧ w.cell? ⟨g, k * 2 + 1, none⟩ = some (.bool G[k].2)) ∧ w.ownsRow B 48 2 (.slice (some ⟨g, 0, none⟩) G.length cap) G.length (gc G) := by
  obtain ⟨v, h1, h2⟩ := h.h
  obtain ⟨a, cap, rfl, h3⟩ := own_form h2
  obtain ⟨g, rfl, h4⟩ := h3 h.ok.ne
  refine ⟨g, cap, by rw [h1.cell]; rfl, h1.frozen 0, fun k hk => ⟨?_, ?_⟩, h2⟩
  · have := gc_at G k 0 hk (by omega)
    rw [Nat.add_zero] at this
    rw [h4 _ (by omega), this]; rfl
  · rw [h4 _ (by omega), gc_at G k 1 hk (by omega)]; rfl
theorem TreeIs.lt (h : TreeIs B w t G) : t < w.heap.size := by
  obtain ⟨v, h1, h2⟩ := h.h
  exact h1.lt
end

set_option maxHeartbeats 1000000 in
theorem plen (B t : Nat) (G : Gr) (w : World) (h : TreeIs B w t G) :
    Calls Try.prog 15 #[.pointer (some ⟨t, 0, none⟩)] w fun e w' => e = .returned (.int .i64 G.length) ∧ w' = w := by
  obtain ⟨g, cap, hc, -, -, -⟩ := h.open
  go_enter Try.func15, Try.ntmps15
  go_wp2
  go_ret
  exact ⟨rfl, rfl⟩

set_option maxHeartbeats 1000000 in
theorem plive (B t : Nat) (G : Gr) (x : Int) (w : World) (h : TreeIs B w t G) :
    Calls Try.prog 16 #[.pointer (some ⟨t, 0, none⟩), .int .i64 x] w fun e w' => e = .returned (.bool (lv G x)) ∧ w' = w := by
  obtain ⟨g, cap, hc, -, hg, -⟩ := h.open
  have HL : Hid (∀ w, TreeIs B w t G → Calls Try.prog 15 #[.pointer (some ⟨t, 0, none⟩)] w fun e w' => e = .returned (.int .i64 G.length) ∧ w' = w) := fun w h => plen B t G w h
  by_cases h0 : x < 0
  · have HP : Hid (lv G x = false) := lv_neg h0
    have hd : decide (0 ≤ x) = false := by simp; omega
    go_enter Try.func16, Try.ntmps16
    go_wp2
    go_ret
    exact ⟨by rw [HP.out]; rfl, rfl⟩
  · have hd0 : decide (0 ≤ x) = true := by simp; omega
    obtain ⟨k, rfl⟩ := Int.eq_ofNat_of_zero_le (by omega : 0 ≤ x)
    by_cases h1 : k < G.length
    · have hd1 : decide ((k : Int) < (G.length : Int)) = true := by simp; omega
      obtain ⟨b, hb⟩ : ∃ b, b = G[k].2 := ⟨_, rfl⟩
      have hk := (hg k h1).2
      have HP : Hid (lv G k = b) := by show _ = _; rw [lv_nat h1, hb]
      rw [← hb] at hk
      clear hb hg
      go_enter Try.func16, Try.ntmps16
      go_wp2_with fail
      refine (HL.out _ h).mono ?_
      rintro e w1 ⟨rfl, rfl⟩
      go_wp2_with fail
      go_ret
      exact ⟨by rw [HP.out]; rfl, rfl⟩
    · have HP : Hid (lv G k = false) := lv_high (by omega)
      have hd1 : decide ((k : Int) < (G.length : Int)) = false := by simp; omega
      clear hg
      go_enter Try.func16, Try.ntmps16
      go_wp2_with fail
      refine (HL.out _ h).mono ?_
      rintro e w1 ⟨rfl, rfl⟩
      go_wp2_with fail
      go_ret
      exact ⟨by rw [HP.out]; rfl, rfl⟩

set_option maxHeartbeats 1000000 in
theorem ppar (B t : Nat) (G : Gr) (x : Int) (w : World) (h : TreeIs B w t G) :
    Calls Try.prog 18 #[.pointer (some ⟨t, 0, none⟩), .int .i64 x] w fun e w' => e = .returned (.int .i64 (par G x)) ∧ w' = w := by
  obtain ⟨g, cap, hc, -, hg, -⟩ := h.open
  have HL : Hid (∀ w, TreeIs B w t G → Calls Try.prog 16 #[.pointer (some ⟨t, 0, none⟩), .int .i64 x] w fun e w' => e = .returned (.bool (lv G x)) ∧ w' = w) := fun w h => plive B t G x w h
  cases hl : lv G x with
  | false =>
    have HP : Hid (par G x = -1) := par_dead hl
    rw [hl] at HL
    clear hl hg
    go_enter Try.func18, Try.ntmps18
    go_wp2_with fail
    refine (HL.out _ h).mono ?_
    rintro e w1 ⟨rfl, rfl⟩
    go_wp2_with fail
    go_ret
    exact ⟨by rw [HP.out]; rfl, rfl⟩
  | true =>
    have hx := lv_lo hl
    obtain ⟨k, rfl⟩ := Int.eq_ofNat_of_zero_le hx.1
    have h1 : k < G.length := by omega
    obtain ⟨b, hb⟩ : ∃ b, b = G[k].1 := ⟨_, rfl⟩
    have hk := (hg k h1).1
    have HP : Hid (par G k = b) := by show _ = _; rw [par_live hl, pr_nat h1, hb]
    rw [← hb] at hk
    rw [hl] at HL
    clear hb hg hl hx
    go_enter Try.func18, Try.ntmps18
    go_wp2_with fail
    refine (HL.out _ h).mono ?_
    rintro e w1 ⟨rfl, rfl⟩
    go_wp2_with fail
    go_ret
    exact ⟨by rw [HP.out]; rfl, rfl⟩

set_option maxHeartbeats 1000000 in
theorem pnew (w : World) : Calls Try.prog 9 #[] w fun e w' => ∃ t, e = .returned (.pointer (some ⟨t, 0, none⟩)) ∧ TreeIs w.heap.size w' t newG ∧ Below w.heap.size w w' := by
  go_enter Try.func9, Try.ntmps9
  go_wp2
  go_ret
  have hr := RowAt.new (w.alloc (.cells #[.int .i64 (-1), .bool true] 48)) #[.slice (some ⟨w.heap.size, 0, none⟩) 1 1] 51
  rw [World.size_alloc] at hr
  refine ⟨_, rfl, ⟨⟨_, hr, ?_⟩, by simp, ok_new⟩, ?_⟩
  · refine World.ownsRow.alloc ?_ _
    exact World.ownsRow_lit w #[.int .i64 (-1), .bool true] 1 (Nat.le_refl _) (by decide) rfl
  · exact (below_alloc _ _).trans ((below_alloc _ _).mono (by simp))
end Go.Proofs.Ytbceadnhfihlfaa
