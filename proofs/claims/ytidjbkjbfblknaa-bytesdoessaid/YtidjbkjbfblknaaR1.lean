/-
  Contracts of the document's own store (one row of bytes): page, Get, Put, Read, New.
-/
import Derived.Test.YtidjbkjbfblknaaPage
namespace Go.Proofs.Ytidjbkjbfblknaa
open Go.RowKit

/-- The document's store at block r, its bytes at block q. -/
structure RefIs (w : World) (r q n : Nat) (L : List UInt8) : Prop where
  h : RowAt w r 43 [.slice (some ⟨q, 0, none⟩) L.length L.length]
  c : RowAt w q 5 (bc L)
  len : L.length = n * 16
  le : n ≤ 1024
  ne : r ≠ q
theorem RefIs.cell {w : World} {r q n : Nat} {L : List UInt8} (h : RefIs w r q n L) : w.cell? ⟨r, 0, none⟩ = some (.slice (some ⟨q, 0, none⟩) L.length L.length) := by
  rw [h.h.cell]; rfl
theorem RefIs.drewN {w : World} {r q n : Nat} {L : List UInt8} (h : RefIs w r q n L) (m : Nat) : RefIs (w.drewN m) r q n L := ⟨h.h.drewN m, h.c.drewN m, h.len, h.le, h.ne⟩
theorem RefIs.apart {w w' : World} {r q n p : Nat} {L : List UInt8} (h : RefIs w r q n L) (ha : Apart p w w') (h1 : r ≠ p) (h2 : q ≠ p) : RefIs w' r q n L := ⟨h.h.apart ha h1, h.c.apart ha h2, h.len, h.le, h.ne⟩
theorem RefIs.below {B : Nat} {w w' : World} {r q n : Nat} {L : List UInt8} (h : RefIs w r q n L) (hb : Below B w w') (h1 : r < B) (h2 : q < B) : RefIs w' r q n L := ⟨h.h.below hb h1, h.c.below hb h2, h.len, h.le, h.ne⟩
theorem RefIs.lt {w : World} {r q n : Nat} {L : List UInt8} (h : RefIs w r q n L) : r < w.heap.size ∧ q < w.heap.size := ⟨h.h.lt, h.c.lt⟩
theorem RefIs.at {w : World} {r q n : Nat} {L : List UInt8} (h : RefIs w r q n L) (i : Nat) (hi : i < L.length) : w.cell? ⟨q, i, none⟩ = some (.int .u8 (L[i].toNat : Int)) := by
  rw [h.c.cell]; exact bc_get L i hi
theorem tdiv16 (n : Nat) : ((n * 16 : Nat) : Int).tdiv 16 = n := by
  rw [Int.tdiv_eq_ediv_of_nonneg (by omega)]; omega

theorem rpage (r q n : Nat) (L : List UInt8) (i : Int) (w : World) (h : RefIs w r q n L) :
    Calls Try.prog 23 #[.pointer (some ⟨r, 0, none⟩), .int .i64 i] w fun e w' => e = .returned (.bool (hasP n i)) ∧ w' = w := by
  have hc := h.cell
  have hlen := h.len
  have hle := h.le
  obtain ⟨M, hM⟩ : ∃ M, M = L.length := ⟨_, rfl⟩
  rw [← hM] at hc hlen
  have hdv : (M : Int).tdiv 16 = n := by rw [hlen]; exact tdiv16 n
  clear hM
  by_cases h0 : 0 ≤ i
  · go_enter Try.func23, Try.ntmps23
    go_wp2
    go_ret
    exact ⟨by simp [hasP, h0], rfl⟩
  · go_enter Try.func23, Try.ntmps23
    go_wp2
    go_ret
    exact ⟨by simp [hasP]; omega, rfl⟩

theorem rget (r q n : Nat) (L : List UInt8) (i at_ : Int) (w : World) (h : RefIs w r q n L) :
    Calls Try.prog 18 #[.pointer (some ⟨r, 0, none⟩), .int .i64 i, .int .i64 at_] w fun e w' => e = .returned (.tuple #[.int .u8 (getB n L i at_), .int .i64 (getE n i at_)]) ∧ w' = w := by
  have hc := h.cell
  have hle := h.le
  cases h1 : hasP n i with
  | false =>
    have HB : Hid (getB n L i at_ = 0) := by show _ = _; simp [getB, h1]
    have HE : Hid (getE n i at_ = 1) := by show _ = _; simp [getE, h1]
    have H1 : Hid (hasP n i = false) := h1
    clear h1
    go_enter Try.func18, Try.ntmps18
    go_wp2_with fail
    refine (rpage _ _ n L i _ h).mono ?_
    rintro e w' ⟨rfl, rfl⟩
    rw [H1.out]
    go_wp2_with fail
    go_ret2
    exact ⟨by rw [HB.out, HE.out]; rfl, rfl⟩
  | true =>
    have H1 : Hid (hasP n i = true) := h1
    cases h2 : hasP 16 at_ with
    | false =>
      have HB : Hid (getB n L i at_ = 0) := by show _ = _; simp [getB, h2]
      have HE : Hid (getE n i at_ = 1) := by show _ = _; simp [getE, h2]
      have h3 := hasP_false h2
      clear h1 h2
      by_cases h4 : at_ < 0
      · go_enter Try.func18, Try.ntmps18
        go_wp2_with fail
        refine (rpage _ _ n L i _ h).mono ?_
        rintro e w' ⟨rfl, rfl⟩
        rw [H1.out]
        go_wp2_with fail
        go_ret2
        exact ⟨by rw [HB.out, HE.out]; rfl, rfl⟩
      · have h5 : 15 < at_ := by omega
        clear h3
        go_enter Try.func18, Try.ntmps18
        go_wp2_with fail
        refine (rpage _ _ n L i _ h).mono ?_
        rintro e w' ⟨rfl, rfl⟩
        rw [H1.out]
        go_wp2_with fail
        go_ret2
        exact ⟨by rw [HB.out, HE.out]; rfl, rfl⟩
    | true =>
      obtain ⟨k, rfl, hk⟩ := hasP_true h1
      obtain ⟨j, rfl, hj⟩ := hasP_true h2
      have hl : k * 16 + j < L.length := by rw [h.len]; omega
      have hat := h.at (k * 16 + j) hl
      obtain ⟨x, hx⟩ : ∃ x, x = (L[k * 16 + j].toNat : Int) := ⟨_, rfl⟩
      rw [← hx] at hat
      have HB : Hid (getB n L k j = x) := by show _ = _; simp [getB, h1, h2, hx, hl]
      have HE : Hid (getE n k j = 0) := by show _ = _; simp [getE, h1, h2]
      have hat' : w.cell? ⟨q, 16 * k + j, none⟩ = some (.int .u8 x) := by rw [Nat.mul_comm]; exact hat
      have hlen := h.len
      clear h1 h2 hx
      go_enter Try.func18, Try.ntmps18
      go_wp2_with fail
      refine (rpage _ _ n L k _ h).mono ?_
      rintro e w' ⟨rfl, rfl⟩
      rw [H1.out]
      go_wp2_with fail
      go_ret2
      exact ⟨by rw [HB.out, HE.out]; rfl, rfl⟩
end Go.Proofs.Ytidjbkjbfblknaa
