/-
  The document's counter as it lies in memory; the contracts of its Group, SetLimit, chain.
-/
import Derived.Test.YtpageadhmgoddaaActs
namespace Go.Proofs.Ytpageadhmgoddaa
open Go.RowKit

/-- The types of the document's counter. -/
def qt (t : TypeId) : Bool := t == 39 || t == 3

/-- A row of what is counted of the groups, at block g. -/
def Rw (B : Nat) (w : World) (g cap : Nat) (f : Int → Int) : Prop := w.ownsRow B 3 1 (.slice (some ⟨g, 0, none⟩) 64 cap) 64 ((rw64 f 64).map iv)
section
variable {B : Nat} {w w' : World} {g cap : Nat} {f : Int → Int}
theorem Rw.at (h : Rw B w g cap f) {k : Nat} (hk : k < 64) : w.cell? ⟨g, k, none⟩ = some (.int .i64 (f k)) := by
  rw [World.ownsRow.cellAt h k (by omega), rw64_at f hk]
theorem Rw.frozen (h : Rw B w g cap f) (k : Nat) : w.frozen? ⟨g, k, none⟩ = false := World.ownsRow.frozenAt h k
theorem Rw.lo (h : Rw B w g cap f) : B ≤ g ∧ g < w.heap.size := World.ownsRow.lt h g rfl
theorem Rw.below (h : Rw B w g cap f) (hb : Below w.heap.size w w') : Rw B w' g cap f := own_below h hb
theorem Rw.ty {C : TypeId → Bool} (h : Rw B w g cap f) (ht : Ty C w w') (hC : C 3 = false) : Rw B w' g cap f := own_ty h ht hC
theorem Rw.drewN (h : Rw B w g cap f) (n : Nat) : Rw B (w.drewN n) g cap f := h
theorem rw_set (f : Int → Int) (k : Nat) (v : Int) (hk : k < 64) : ((rw64 f 64).map iv).set k (.int .i64 v) = (rw64 (upd f k v) 64).map iv := by
  apply List.ext_getElem?
  intro j
  rw [List.getElem?_set]
  by_cases hj : j < 64
  · rw [rw64_at _ hj, rw64_at _ hj]
    by_cases h : k = j
    · subst h; simp [rw64, hk, upd_same]
    · rw [if_neg h, upd_nat f v (fun e => h e.symm)]
  · rw [List.getElem?_eq_none (by simp [rw64]; omega), List.getElem?_eq_none (by simp [rw64]; omega)]
    split
    · rw [if_neg (by simp [rw64]; omega)]
    · rfl
/-- One place of a row stored. -/
theorem Rw.set (h : Rw B w g cap f) (k : Nat) (v : Int) (hk : k < 64) : Rw B (w.setCell ⟨g, k, none⟩ (.int .i64 v)) g cap (upd f k v) ∧ But g w (w.setCell ⟨g, k, none⟩ (.int .i64 v)) ∧ Ty (fun t => t == 3) w (w.setCell ⟨g, k, none⟩ (.int .i64 v)) := by
  obtain ⟨o1, g1⟩ := World.ownsRow.stored h k (.int .i64 v)
  rw [rw_set f k v hk] at o1
  exact ⟨o1, But.setCell _ _ _ _, ty_grown h g1 rfl⟩
theorem Rw.but {c : Nat} (h : Rw B w g cap f) (hb : But c w w') (hne : g ≠ c) : Rw B w' g cap f := by
  refine ⟨h.1, ?_⟩
  rcases h.2 with hn | ⟨g', cap', cur, e, h1, h2, h3⟩
  · exact Or.inl hn
  · injection e with e1 e2 e3
    injection e1 with e1
    injection e1 with e1
    refine Or.inr ⟨g', cap', cur, by rw [e1, e3], h1, ?_, h3⟩
    rw [hb.block g' (by rw [← e1]; exact hne)]
    exact h2
end

/-- Four rows, and what holds them: no two in one block. -/
structure RefAt (B : Nat) (w : World) (r : Nat) (g1 c1 g2 c2 g3 c3 g4 c4 : Nat) (S : Cs) : Prop where
  row : RowAt w r 39 [.slice (some ⟨g1, 0, none⟩) 64 c1, .slice (some ⟨g2, 0, none⟩) 64 c2, .slice (some ⟨g3, 0, none⟩) 64 c3, .slice (some ⟨g4, 0, none⟩) 64 c4]
  r1 : Rw B w g1 c1 S.u
  r2 : Rw B w g2 c2 S.l
  r3 : Rw B w g3 c3 S.f
  r4 : Rw B w g4 c4 S.p
  n12 : g1 ≠ g2
  n13 : g1 ≠ g3
  n14 : g1 ≠ g4
  n23 : g2 ≠ g3
  n24 : g2 ≠ g4
  n34 : g3 ≠ g4
  lo : B ≤ r
def RefIs (B : Nat) (w : World) (r : Nat) (S : Cs) : Prop := ∃ g1 c1 g2 c2 g3 c3 g4 c4, RefAt B w r g1 c1 g2 c2 g3 c3 g4 c4 S
section
variable {B : Nat} {w w' : World} {r g1 c1 g2 c2 g3 c3 g4 c4 : Nat} {S : Cs}
theorem RefAt.below (h : RefAt B w r g1 c1 g2 c2 g3 c3 g4 c4 S) (hb : Below w.heap.size w w') : RefAt B w' r g1 c1 g2 c2 g3 c3 g4 c4 S :=
  ⟨h.row.later hb, h.r1.below hb, h.r2.below hb, h.r3.below hb, h.r4.below hb, h.n12, h.n13, h.n14, h.n23, h.n24, h.n34, h.lo⟩
theorem RefIs.below (h : RefIs B w r S) (hb : Below w.heap.size w w') : RefIs B w' r S := by
  obtain ⟨g1, c1, g2, c2, g3, c3, g4, c4, h⟩ := h
  exact ⟨g1, c1, g2, c2, g3, c3, g4, c4, h.below hb⟩
theorem RefIs.ty {C : TypeId → Bool} (h : RefIs B w r S) (ht : Ty C w w') (h1 : C 39 = false) (h2 : C 3 = false) : RefIs B w' r S := by
  obtain ⟨g1, c1, g2, c2, g3, c3, g4, c4, h⟩ := h
  exact ⟨g1, c1, g2, c2, g3, c3, g4, c4, h.row.ty ht h1, h.r1.ty ht h2, h.r2.ty ht h2, h.r3.ty ht h2, h.r4.ty ht h2, h.n12, h.n13, h.n14, h.n23, h.n24, h.n34, h.lo⟩
theorem RefAt.drewN (h : RefAt B w r g1 c1 g2 c2 g3 c3 g4 c4 S) (n : Nat) : RefAt B (w.drewN n) r g1 c1 g2 c2 g3 c3 g4 c4 S :=
  ⟨h.row.drewN n, h.r1.drewN n, h.r2.drewN n, h.r3.drewN n, h.r4.drewN n, h.n12, h.n13, h.n14, h.n23, h.n24, h.n34, h.lo⟩
theorem RefAt.ptrs (h : RefAt B w r g1 c1 g2 c2 g3 c3 g4 c4 S) : w.cell? ⟨r, 0, none⟩ = some (.slice (some ⟨g1, 0, none⟩) 64 c1) ∧ w.cell? ⟨r, 1, none⟩ = some (.slice (some ⟨g2, 0, none⟩) 64 c2) ∧ w.cell? ⟨r, 2, none⟩ = some (.slice (some ⟨g3, 0, none⟩) 64 c3) ∧ w.cell? ⟨r, 3, none⟩ = some (.slice (some ⟨g4, 0, none⟩) 64 c4) :=
  ⟨by rw [h.row.cell]; rfl, by rw [h.row.cell]; rfl, by rw [h.row.cell]; rfl, by rw [h.row.cell]; rfl⟩
/-- The head lies in no row: their blocks' types differ. -/
theorem head_ne {g cap : Nat} {f : Int → Int} {vs : List Value} (h : RowAt w r 39 vs) (hr : Rw B w g cap f) : r ≠ g := by
  intro e
  subst e
  rcases hr.2 with ⟨h1, -⟩ | ⟨g', cap', cur, e, -, h2, -⟩
  · cases h1
  · injection e with e1
    injection e1 with e1
    injection e1 with e1
    subst e1
    unfold RowAt at h
    rw [h] at h2
    injection h2 with h3
    injection h3 with h4 h5
    cases h5
theorem RefAt.setU (h : RefAt B w r g1 c1 g2 c2 g3 c3 g4 c4 S) (k : Nat) (v : Int) (hk : k < 64) : RefAt B (w.setCell ⟨g1, k, none⟩ (.int .i64 v)) r g1 c1 g2 c2 g3 c3 g4 c4 ⟨upd S.u k v, S.l, S.f, S.p⟩ := by
  obtain ⟨a1, a2, -⟩ := h.r1.set k v hk
  exact ⟨h.row.but a2 (head_ne h.row h.r1), a1, h.r2.but a2 h.n12.symm, h.r3.but a2 h.n13.symm, h.r4.but a2 h.n14.symm, h.n12, h.n13, h.n14, h.n23, h.n24, h.n34, h.lo⟩
theorem RefAt.setL (h : RefAt B w r g1 c1 g2 c2 g3 c3 g4 c4 S) (k : Nat) (v : Int) (hk : k < 64) : RefAt B (w.setCell ⟨g2, k, none⟩ (.int .i64 v)) r g1 c1 g2 c2 g3 c3 g4 c4 ⟨S.u, upd S.l k v, S.f, S.p⟩ := by
  obtain ⟨a1, a2, -⟩ := h.r2.set k v hk
  exact ⟨h.row.but a2 (head_ne h.row h.r2), h.r1.but a2 h.n12, a1, h.r3.but a2 h.n23.symm, h.r4.but a2 h.n24.symm, h.n12, h.n13, h.n14, h.n23, h.n24, h.n34, h.lo⟩
theorem RefAt.setF (h : RefAt B w r g1 c1 g2 c2 g3 c3 g4 c4 S) (k : Nat) (v : Int) (hk : k < 64) : RefAt B (w.setCell ⟨g3, k, none⟩ (.int .i64 v)) r g1 c1 g2 c2 g3 c3 g4 c4 ⟨S.u, S.l, upd S.f k v, S.p⟩ := by
  obtain ⟨a1, a2, -⟩ := h.r3.set k v hk
  exact ⟨h.row.but a2 (head_ne h.row h.r3), h.r1.but a2 h.n13, h.r2.but a2 h.n23, a1, h.r4.but a2 h.n34.symm, h.n12, h.n13, h.n14, h.n23, h.n24, h.n34, h.lo⟩
theorem RefAt.setP (h : RefAt B w r g1 c1 g2 c2 g3 c3 g4 c4 S) (k : Nat) (v : Int) (hk : k < 64) : RefAt B (w.setCell ⟨g4, k, none⟩ (.int .i64 v)) r g1 c1 g2 c2 g3 c3 g4 c4 ⟨S.u, S.l, S.f, upd S.p k v⟩ := by
  obtain ⟨a1, a2, -⟩ := h.r4.set k v hk
  exact ⟨h.row.but a2 (head_ne h.row h.r4), h.r1.but a2 h.n14, h.r2.but a2 h.n24, h.r3.but a2 h.n34, a1, h.n12, h.n13, h.n14, h.n23, h.n24, h.n34, h.lo⟩
theorem Ty.set3 {g cap : Nat} {f : Int → Int} (h : Rw B w g cap f) (k : Nat) (v : Int) (hk : k < 64) : Ty qt w (w.setCell ⟨g, k, none⟩ (.int .i64 v)) :=
  (h.set k v hk).2.2.mono fun t ht => by simp only [qt, Bool.or_eq_false_iff] at ht; exact ht.2
end

theorem rgrp (x : Int) (w : World) : Calls Try.prog 23 #[.int .i64 x] w fun e w' => e = .returned (.bool (isG x)) ∧ w' = w := by
  have HQ : Hid (isG x = (decide (0 ≤ x) && decide (x < 64))) := rfl
  by_cases h : 0 ≤ x
  · go_enter Try.func23, Try.ntmps23
    go_wp2
    go_ret
    exact ⟨by rw [HQ.out]; simp [h], rfl⟩
  · have hd : decide (0 ≤ x) = false := by simp; omega
    go_enter Try.func23, Try.ntmps23
    go_wp2
    go_ret
    exact ⟨by rw [HQ.out, hd]; rfl, rfl⟩
theorem HR : Hid (∀ (x : Int) (w : World), Calls Try.prog 23 #[.int .i64 x] w fun e w' => e = .returned (.bool (isG x)) ∧ w' = w) := rgrp

set_option maxHeartbeats 4000000 in
theorem rset (B r : Nat) (S : Cs) (g n : Int) (w : World) (h : RefIs B w r S) :
    Calls Try.prog 18 #[.pointer (some ⟨r, 0, none⟩), .int .i64 g, .int .i64 n] w fun e w' => e = .returned (.int .i64 (setE g n)) ∧ RefIs B w' r (setC S g n) ∧ Below B w w' ∧ Ty qt w w' := by
  have HGx := HR
  cases hg : isG g with
  | false =>
    obtain ⟨e1, e2⟩ := set_no (S := S) (n := n) (Or.inl hg)
    rw [e1, e2]
    clear e1 e2
    go_enter Try.func18, Try.ntmps18
    go_wp2_with fail
    refine (HGx.out _ _).mono ?_
    rintro e w1 ⟨rfl, rfl⟩
    rw [hg]
    go_wp2_with fail
    go_ret
    exact ⟨rfl, h, Below.refl _ _, Ty.refl _ _⟩
  | true =>
    by_cases n0 : n < 0
    · obtain ⟨e1, e2⟩ := set_no (S := S) (g := g) (n := n) (Or.inr (isA_no.2 (by omega)))
      rw [e1, e2]
      have z0 : decide (n < 0) = true := by simp; omega
      clear e1 e2
      go_enter Try.func18, Try.ntmps18
      go_wp2_with fail
      refine (HGx.out _ _).mono ?_
      rintro e w1 ⟨rfl, rfl⟩
      rw [hg]
      go_wp2_with fail
      go_ret
      exact ⟨rfl, h, Below.refl _ _, Ty.refl _ _⟩
    have z0 : decide (n < 0) = false := by simp; omega
    by_cases n1 : 1099511627776 < n
    · obtain ⟨e1, e2⟩ := set_no (S := S) (g := g) (n := n) (Or.inr (isA_no.2 (by omega)))
      rw [e1, e2]
      have z1 : decide (1099511627776 < n) = true := by simp; omega
      clear e1 e2
      go_enter Try.func18, Try.ntmps18
      go_wp2_with fail
      refine (HGx.out _ _).mono ?_
      rintro e w1 ⟨rfl, rfl⟩
      rw [hg]
      go_wp2_with fail
      go_ret
      exact ⟨rfl, h, Below.refl _ _, Ty.refl _ _⟩
    have z1 : decide (1099511627776 < n) = false := by simp; omega
    obtain ⟨e1, e2⟩ := set_yes (S := S) hg (isA_iff.2 ⟨by omega, by omega⟩ : isA n = true)
    rw [e1, e2]
    obtain ⟨k, rfl⟩ := Int.eq_ofNat_of_zero_le (isG_iff.1 hg).1
    have hk : k < 64 := by have := (isG_iff.1 hg).2; omega
    obtain ⟨g1, c1, g2, c2, g3, c3, g4, c4, hA⟩ := h
    obtain ⟨p1, p2, p3, p4⟩ := hA.ptrs
    have k2 := hA.r2.at hk
    have f2 := hA.r2.frozen k
    have HN : Hid (RefAt B (w.setCell ⟨g2, k, none⟩ (.int .i64 n)) r g1 c1 g2 c2 g3 c3 g4 c4 ⟨S.u, upd S.l k n, S.f, S.p⟩) := hA.setL k n hk
    have HT : Hid (Ty qt w (w.setCell ⟨g2, k, none⟩ (.int .i64 n))) := Ty.set3 hA.r2 k n hk
    have HL : Hid (B ≤ g2) := hA.r2.lo.1
    obtain ⟨lm, hlm⟩ : ∃ x, x = S.l k := ⟨_, rfl⟩
    rw [← hlm] at k2
    clear e1 e2 hA n0 n1 hlm
    go_enter Try.func18, Try.ntmps18
    go_wp2_with fail
    refine (HGx.out _ _).mono ?_
    rintro e w1 ⟨rfl, rfl⟩
    rw [hg]
    go_wp2_with fail
    go_ret
    exact ⟨rfl, ⟨g1, c1, g2, c2, g3, c3, g4, c4, HN.out⟩, (Below.refl _ _).setCell (p := ⟨g2, k, none⟩) HL.out _, HT.out⟩
end Go.Proofs.Ytpageadhmgoddaa
