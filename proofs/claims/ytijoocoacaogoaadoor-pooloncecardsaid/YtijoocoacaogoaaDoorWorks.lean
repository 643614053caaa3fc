/-
  One pool that a law makes, told with what lies below it; and the contract of the laws' own 'works': the document's example holds.
-/
import Derived.Test.YtijoocoacaogoaaDoorP4
namespace Go.Proofs.YtijoocoacaogoaaDoor
open Go.RowKit

/-- A pool made since w0, of whose blocks below B nothing has changed. -/
structure Pl (B : Nat) (w0 w : World) (bp bm bw : Nat) (bs : List Bool) : Prop where
  pool : PoolIs w bp bm bw bs
  bel : Below B w0 w
  tab : Tab w
  lo : B ≤ bw
  pos : 0 < B
theorem Pl.drewN {B : Nat} {w0 w : World} {bp bm bw : Nat} {bs : List Bool} (h : Pl B w0 w bp bm bw bs) (n : Nat) : Pl B w0 (w.drewN n) bp bm bw bs :=
  ⟨h.pool.drewN n, below_drawn h.bel n, h.tab.drewN n, h.lo, h.pos⟩
theorem Pl.turn {B : Nat} {w0 w w' : World} {bp bm bw : Nat} {bs bs' : List Bool} (h : Pl B w0 w bp bm bw bs) (hp : PoolIs w' bp bm bw bs') (hb : But bw w w') : Pl B w0 w' bp bm bw bs' :=
  ⟨hp, h.bel.trans (hb.below h.lo), h.tab.but hb (by have := h.lo; have := h.pos; omega), h.lo, h.pos⟩
theorem Pl.le {B : Nat} {w0 w : World} {bp bm bw : Nat} {bs : List Bool} (h : Pl B w0 w bp bm bw bs) : bs.length ≤ 65536 := h.pool.lt.2.2.2

theorem takeL {B : Nat} {w0 w : World} {bp bm bw : Nat} {bs : List Bool} (h : Pl B w0 w bp bm bw bs) :
    Calls Tryd.prog 12 #[.pointer (some ⟨bp, 0, none⟩)] w fun e w' => e = .returned (.tuple #[.int .i64 (runOf bs 1).1, .int .i64 (runOf bs 1).2.1]) ∧ Pl B w0 w' bp bm bw (runOf bs 1).2.2 :=
  (ptake bp bm bw bs w h.pool h.tab).mono fun _ _ ⟨a, b, c⟩ => ⟨a, h.turn b c⟩
theorem runL {B : Nat} {w0 w : World} {bp bm bw : Nat} {bs : List Bool} (n : Int) (h : Pl B w0 w bp bm bw bs) :
    Calls Tryd.prog 16 #[.pointer (some ⟨bp, 0, none⟩), .int .i64 n] w fun e w' => e = .returned (.tuple #[.int .i64 (runOf bs n).1, .int .i64 (runOf bs n).2.1]) ∧ Pl B w0 w' bp bm bw (runOf bs n).2.2 :=
  (prun bp bm bw bs n w h.pool h.tab).mono fun _ _ ⟨a, b, c⟩ => ⟨a, h.turn b c⟩
theorem giveL {B : Nat} {w0 w : World} {bp bm bw : Nat} {bs : List Bool} (i : Int) (h : Pl B w0 w bp bm bw bs) :
    Calls Tryd.prog 14 #[.pointer (some ⟨bp, 0, none⟩), .int .i64 i] w fun e w' => e = .returned (.int .i64 (giveOf bs i).1) ∧ Pl B w0 w' bp bm bw (giveOf bs i).2 :=
  (pgive bp bm bw bs i w h.pool).mono fun _ _ ⟨a, b, c⟩ => ⟨a, h.turn b c⟩
theorem freeL {B : Nat} {w0 w : World} {bp bm bw : Nat} {bs : List Bool} (h : Pl B w0 w bp bm bw bs) :
    Calls Tryd.prog 18 #[.pointer (some ⟨bp, 0, none⟩)] w fun e w' => e = .returned (.int .i64 (bs.count false)) ∧ Pl B w0 w' bp bm bw bs :=
  (pfree bp bm bw bs w h.pool).mono fun _ _ ⟨a, n, b⟩ => ⟨a, by rw [b]; exact h.drewN n⟩
theorem levelL {B : Nat} {w0 w : World} {bp bm bw : Nat} {bs : List Bool} (low high : Int) (h : Pl B w0 w bp bm bw bs) :
    Calls Tryd.prog 21 #[.pointer (some ⟨bp, 0, none⟩), .int .i64 low, .int .i64 high] w fun e w' => e = .returned (.int .i64 (levelOf (bs.count false) low high)) ∧ Pl B w0 w' bp bm bw bs :=
  (plevel bp bm bw bs low high w h.pool).mono fun _ _ ⟨a, n, b⟩ => ⟨a, by rw [b]; exact h.drewN n⟩
theorem takenL {B : Nat} {w0 w : World} {bp bm bw : Nat} {bs : List Bool} (i : Int) (h : Pl B w0 w bp bm bw bs) :
    Calls Tryd.prog 20 #[.pointer (some ⟨bp, 0, none⟩), .int .i64 i] w fun e w' => e = .returned (.bool (bget bs i)) ∧ Pl B w0 w' bp bm bw bs :=
  (ptaken bp bm bw bs i w h.pool).mono fun _ _ ⟨a, b⟩ => ⟨a, by rw [b]; exact h⟩
theorem lenL {B : Nat} {w0 w : World} {bp bm bw : Nat} {bs : List Bool} (h : Pl B w0 w bp bm bw bs) :
    Calls Tryd.prog 23 #[.pointer (some ⟨bp, 0, none⟩)] w fun e w' => e = .returned (.int .i64 bs.length) ∧ Pl B w0 w' bp bm bw bs :=
  (plen bp bm bw bs w h.pool).mono fun _ _ ⟨a, b⟩ => ⟨a, by rw [b]; exact h⟩
theorem newL (n : Int) (k : Nat) (w0 w : World) (hT : Tab w) (hb : Below w0.heap.size w0 w) (hp : 0 < w0.heap.size) (hk : n < 0 ∧ k = 0 ∨ n = k ∧ k ≤ 1024 ∨ 1024 < n ∧ k = 1024) :
    Calls Tryd.prog 10 #[.int .i64 n] w fun e w' => ∃ bp bm bw, e = .returned (.pointer (some ⟨bp, 0, none⟩)) ∧ Pl w0.heap.size w0 w' bp bm bw (List.replicate k false) := by
  refine (pnew n k w hk).mono ?_
  rintro e w' ⟨⟨bp, bm, bw, rfl, h1, h2, h3, h4⟩, h5⟩
  exact ⟨bp, bm, bw, rfl, h4, hb.trans (h5.mono hb.size), hT.below h5 hT.pos, Nat.le_trans hb.size h3, hp⟩

/-! ### one that is taken -/
theorem take_at {bs : List Bool} {j : Nat} (hj : j < bs.length) (hf : bs.getD j false = false) (hb : ∀ i, i < j → bs.getD i false = true) : runOf bs 1 = ((j : Int), 0, bs.set j true) := by
  have : IsRoom bs 1 j := Or.inr ⟨j, rfl, by omega, fun k k1 k2 => by
    obtain rfl : k = j := by omega
    exact hf, fun i hi => ⟨i, Nat.le_refl _, by omega, hb i hi⟩⟩
  exact runOf_ok (n := 1) (Nat.le_refl _) this
theorem take_full {bs : List Bool} (hb : ∀ i, i < bs.length → bs.getD i false = true) : runOf bs 1 = (-1, 3, bs) :=
  runOf_full (n := 1) (Nat.le_refl _) (Or.inl ⟨rfl, fun j hj => ⟨j, Nat.le_refl _, by omega, hb j (by omega)⟩⟩)

theorem ex1 : runOf [false, false, false] 1 = (0, 0, [true, false, false]) := take_at (j := 0) (by decide) rfl (fun i hi => by omega)
theorem ex2 : runOf [true, false, false] 1 = (1, 0, [true, true, false]) := take_at (j := 1) (by decide) rfl (fun i hi => by
  obtain rfl : i = 0 := by omega
  rfl)
theorem ex3 : giveOf [true, true, false] 0 = (0, [false, true, false]) := by decide
theorem ex4 : runOf [false, true, false] 2 = (-1, 3, [false, true, false]) :=
  runOf_full (n := 2) (by decide) (Or.inl ⟨rfl, fun j hj => ⟨1, by simp at hj; omega, by omega, rfl⟩⟩)
theorem ex5 : runOf [false, true, false] 1 = (0, 0, [true, true, false]) := take_at (j := 0) (by decide) rfl (fun i hi => by omega)

set_option maxHeartbeats 2000000 in
theorem works_any (w : World) (hT : Tab w) :
    Calls Tryd.prog 9 #[] w fun e w' => e = .returned (.bool true) ∧ Below w.heap.size w w' := by
  have hp := hT.pos
  go_enter Tryd.func9, Tryd.ntmps9
  go_wp2_with fail
  refine (newL 3 3 w w hT (Below.refl _ _) hp (by decide)).mono ?_
  rintro e w1 ⟨bp, bm, bw, rfl, h1⟩
  have h1' : Pl w.heap.size w w1 bp bm bw [false, false, false] := h1
  clear h1
  go_wp2_with fail
  refine (takeL h1').mono ?_
  rintro e w2 ⟨rfl, h2⟩
  rw [ex1] at h2 ⊢
  clear h1'
  go_wp2_with fail
  refine (takeL h2).mono ?_
  rintro e w3 ⟨rfl, h3⟩
  rw [ex2] at h3 ⊢
  clear h2
  go_wp2_with fail
  refine (giveL 0 h3).mono ?_
  rintro e w4 ⟨rfl, h4⟩
  rw [ex3] at h4 ⊢
  clear h3
  go_wp2_with fail
  refine (runL 2 h4).mono ?_
  rintro e w5 ⟨rfl, h5⟩
  rw [ex4] at h5 ⊢
  clear h4
  go_wp2_with fail
  refine (takeL h5).mono ?_
  rintro e w6 ⟨rfl, h6⟩
  rw [ex5] at h6 ⊢
  clear h5
  go_wp2_with fail
  refine (freeL h6).mono ?_
  rintro e w7 ⟨rfl, h7⟩
  clear h6
  go_wp2_with fail
  refine (lenL h7).mono ?_
  rintro e w8 ⟨rfl, h8⟩
  clear h7
  go_wp2_with fail
  refine (takenL 1 h8).mono ?_
  rintro e w9 ⟨rfl, h9⟩
  clear h8
  go_wp2_with fail
  refine (levelL 1 2 h9).mono ?_
  rintro e w10 ⟨rfl, h10⟩
  clear h9
  go_wp2_with fail
  go_ret
  exact ⟨rfl, h10.bel⟩

end Go.Proofs.YtijoocoacaogoaaDoor
