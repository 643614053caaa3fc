/-
  A store of files told; contracts of Count, Size, Writes, has.
-/
import Derived.Test.YtmemciebpnamkaaP2
namespace Go.Proofs.Ytmemciebpnamkaa
open Go.RowKit

def iv (k : Nat) : Value := .int .i64 (k : Int)
/-- A store at block s, its sizes at block p, its pages at block m. -/
structure StoreIs (w : World) (s p m : Nat) (S : List Nat) (L : List Ent) : Prop where
  h : RowAt w s 49 [.slice (some ⟨p, 0, none⟩) S.length S.length, .map (some m), .int .i64 L.length]
  c : RowAt w p 3 (S.map iv)
  m : MapIs w m L
  le : S.length ≤ 32
  sz : ∀ k, S.getD k 0 ≤ 4096
  ts : ∀ e ∈ L, e.t.length = 16
section
variable {w w' : World} {s p m : Nat} {S : List Nat} {L : List Ent}
theorem StoreIs.c0 (h : StoreIs w s p m S L) : w.cell? ⟨s, 0, none⟩ = some (.slice (some ⟨p, 0, none⟩) S.length S.length) := by rw [h.h.cell]; rfl
theorem StoreIs.c1 (h : StoreIs w s p m S L) : w.cell? ⟨s, 1, none⟩ = some (.map (some m)) := by rw [h.h.cell]; rfl
theorem StoreIs.c2 (h : StoreIs w s p m S L) : w.cell? ⟨s, 2, none⟩ = some (.int .i64 L.length) := by rw [h.h.cell]; rfl
theorem StoreIs.lt (h : StoreIs w s p m S L) : s < w.heap.size ∧ p < w.heap.size ∧ m < w.heap.size := ⟨h.h.lt, h.c.lt, h.m.lt⟩
theorem StoreIs.at (h : StoreIs w s p m S L) (k : Nat) (hk : k < S.length) : w.cell? ⟨p, k, none⟩ = some (.int .i64 (S.getD k 0 : Nat)) := by
  rw [h.c.cell]; simp [iv, hk]
theorem StoreIs.turn {C : Nat → Prop} (h : StoreIs w s p m S L) (ht : Turn C w w') (h1 : ¬ C s) (h2 : ¬ C p) (h3 : ¬ C m) : StoreIs w' s p m S L :=
  ⟨h.h.turn ht h1, h.c.turn ht h2, h.m.block (ht.block m h.m.lt h3), h.le, h.sz, h.ts⟩
theorem StoreIs.below (h : StoreIs w s p m S L) (hb : Below w.heap.size w w') : StoreIs w' s p m S L :=
  h.turn (C := fun _ => False) (Turn.ofBelow hb) (fun h => h) (fun h => h) (fun h => h)
theorem StoreIs.drewN (h : StoreIs w s p m S L) (n : Nat) : StoreIs (w.drewN n) s p m S L := ⟨h.h.drewN n, h.c.drewN n, h.m.block rfl, h.le, h.sz, h.ts⟩
theorem StoreIs.alloc (h : StoreIs w s p m S L) (o : Obj) : StoreIs (w.alloc o) s p m S L := h.below (below_alloc _ _)
theorem StoreIs.ne (h : StoreIs w s p m S L) : s ≠ p ∧ s ≠ m ∧ p ≠ m := by
  refine ⟨?_, h.m.not_row h.h, h.m.not_row h.c⟩
  rintro rfl
  have h1 := h.h
  have h2 := h.c
  unfold RowAt at h1 h2
  rw [h1] at h2
  injection h2 with h2
  injection h2 with _ h2
  cases h2
end

theorem pcount (s p m : Nat) (S : List Nat) (L : List Ent) (w : World) (h : StoreIs w s p m S L) :
    Calls Try.prog 10 #[.pointer (some ⟨s, 0, none⟩)] w fun e w' => e = .returned (.int .i64 S.length) ∧ w' = w := by
  have hc := h.c0
  go_enter Try.func10, Try.ntmps10
  go_wp2
  go_ret
  exact ⟨rfl, rfl⟩

theorem pwrites (s p m : Nat) (S : List Nat) (L : List Ent) (w : World) (h : StoreIs w s p m S L) :
    Calls Try.prog 17 #[.pointer (some ⟨s, 0, none⟩)] w fun e w' => e = .returned (.int .i64 L.length) ∧ w' = w := by
  have hc := h.c2
  go_enter Try.func17, Try.ntmps17
  go_wp2
  go_ret
  exact ⟨rfl, rfl⟩

theorem psize (s p m : Nat) (S : List Nat) (L : List Ent) (f : Int) (w : World) (h : StoreIs w s p m S L) :
    Calls Try.prog 18 #[.pointer (some ⟨s, 0, none⟩), .int .i64 f] w fun e w' => e = .returned (.int .i64 (sizeK S f)) ∧ w' = w := by
  have hc := h.c0
  have hle := h.le
  by_cases h0 : f < 0
  · have HS : Hid (sizeK S f = 0) := sizeK_low h0
    go_enter Try.func18, Try.ntmps18
    go_wp2
    go_ret
    exact ⟨by rw [HS.out]; rfl, rfl⟩
  · by_cases h1 : (S.length : Int) ≤ f
    · have HS : Hid (sizeK S f = 0) := sizeK_high h1
      go_enter Try.func18, Try.ntmps18
      go_wp2
      go_ret
      exact ⟨by rw [HS.out]; rfl, rfl⟩
    · obtain ⟨k, rfl⟩ := Int.eq_ofNat_of_zero_le (by omega : 0 ≤ f)
      have hk : k < S.length := by omega
      have hat := h.at k hk
      obtain ⟨x, hx⟩ : ∃ x : Int, x = (S.getD k 0 : Nat) := ⟨_, rfl⟩
      rw [← hx] at hat
      have HS : Hid (sizeK S k = x) := by show _ = _; rw [sizeK_nat hk, hx]
      clear hx
      go_enter Try.func18, Try.ntmps18
      go_wp2
      go_ret
      exact ⟨by rw [HS.out]; rfl, rfl⟩

theorem phas (s p m : Nat) (S : List Nat) (L : List Ent) (f i : Int) (w : World) (h : StoreIs w s p m S L) :
    Calls Try.prog 19 #[.pointer (some ⟨s, 0, none⟩), .agg #[.int .i64 f, .int .i64 i]] w fun e w' => e = .returned (.bool (hasK S f i)) ∧ Below w.heap.size w w' := by
  have H18 : Hid (∀ n, Calls Try.prog 18 #[.pointer (some ⟨s, 0, none⟩), .int .i64 f] ((w.alloc (.cells #[.int .i64 f, .int .i64 i] 25)).drewN n) fun e w' => e = .returned (.int .i64 (sizeK S f)) ∧ w' = ((w.alloc (.cells #[.int .i64 f, .int .i64 i] 25)).drewN n)) := fun n => psize s p m S L f _ ((h.alloc _).drewN n)
  obtain ⟨x, hx⟩ : ∃ x, x = sizeK S f := ⟨_, rfl⟩
  rw [← hx] at H18
  by_cases h0 : 0 ≤ i
  · have HP : Hid (hasK S f i = decide (i < x)) := by show _ = _; simp [hasK, h0, hx]
    clear hx
    go_enter Try.func19, Try.ntmps19
    go_wp2
    go_quiet ((go_at_call 18; exact (H18.out _).mono fun e w' h => ⟨h.1, _, h.2⟩))
    go_wp2
    go_ret
    exact ⟨by rw [HP.out]; rfl, below_drawn (below_alloc _ _) _⟩
  · have HP : Hid (hasK S f i = false) := by show _ = _; simp [hasK, h0]
    have hd : decide (0 ≤ i) = false := by simpa using h0
    clear hx
    go_enter Try.func19, Try.ntmps19
    go_wp2
    go_quiet ((go_at_call 18; exact (H18.out _).mono fun e w' h => ⟨h.1, _, h.2⟩))
    go_wp2
    go_ret
    exact ⟨by rw [HP.out]; rfl, below_drawn (below_alloc _ _) _⟩
end Go.Proofs.Ytmemciebpnamkaa
