/-
  The document's tree as it lies in memory; the contracts of its New, Live, Parent, Chain, Depth.
-/
import Derived.Test.YtbceadnhfihlfaaP9
namespace Go.Proofs.Ytbceadnhfihlfaa
open Go.RowKit

def hb (p : Int × Bool) : Value := .bool p.2
/-- The document's tree at block r, all that it has from block B on. -/
structure RefIs (B : Nat) (w : World) (r : Nat) (G : Gr) : Prop where
  h : ∃ vU vH, ∃ U : List Int, RowAt w r 38 [vU, vH] ∧ w.ownsRow B 3 1 vU U.length (U.map iv) ∧ w.ownsRow B 4 1 vH G.length (G.map hb) ∧ U.length = G.length ∧ ∀ k (hk : k < G.length) (hk2 : k < U.length), G[k].2 = true → U[k] = G[k].1
  lo : B ≤ r
  ok : Ok G
section
variable {B : Nat} {w w' : World} {t : Nat} {G : Gr}
theorem RefIs.below (h : RefIs B w t G) (hb : Below w.heap.size w w') : RefIs B w' t G := by
  obtain ⟨vU, vH, U, h1, h2, h3, h4, h5⟩ := h.h
  exact ⟨⟨vU, vH, U, h1.below hb h1.lt, own_below h2 hb, own_below h3 hb, h4, h5⟩, h.lo, h.ok⟩
theorem RefIs.ty {C : TypeId → Bool} (h : RefIs B w t G) (hT : Ty C w w') (h1 : C 38 = false) (h2 : C 3 = false) (h3 : C 4 = false) : RefIs B w' t G := by
  obtain ⟨vU, vH, U, g1, g2, g3, g4, g5⟩ := h.h
  exact ⟨⟨vU, vH, U, g1.ty hT h1, own_ty g2 hT h2, own_ty g3 hT h3, g4, g5⟩, h.lo, h.ok⟩
theorem RefIs.lt (h : RefIs B w t G) : t < w.heap.size := by
  obtain ⟨vU, vH, U, h1, h2⟩ := h.h
  exact h1.lt
theorem RefIs.open (h : RefIs B w t G) : ∃ gu cu gh ch, ∃ U : List Int, U.length = G.length ∧ w.cell? ⟨t, 0, none⟩ = some (.slice (some ⟨gu, 0, none⟩) G.length cu) ∧ w.cell? ⟨t, 1, none⟩ = some (.slice (some ⟨gh, 0, none⟩) G.length ch) ∧
    (∀ k (hk : k < G.length), w.cell? ⟨gh, k, none⟩ = some (.bool G[k].2)) ∧ (∀ k (hk : k < U.length), w.cell? ⟨gu, k, none⟩ = some (.int .i64 U[k])) ∧ (∀ k (hk : k < G.length) (hk2 : k < U.length), G[k].2 = true → U[k] = G[k].1) := by
  obtain ⟨vU, vH, U, h1, h2, h3, h4, h5⟩ := h.h
  obtain ⟨a, cu, rfl, h6⟩ := own_form h2
  obtain ⟨a', ch, rfl, h7⟩ := own_form h3
  obtain ⟨gu, rfl, h8⟩ := h6 (by rw [h4]; exact h.ok.ne)
  obtain ⟨gh, rfl, h9⟩ := h7 h.ok.ne
  refine ⟨gu, cu, gh, ch, U, h4, by rw [h1.cell, ← h4]; rfl, by rw [h1.cell]; rfl, fun k hk => ?_, fun k hk => ?_, h5⟩
  · rw [h9 k (by omega)]; simp [hb, hk]
  · rw [h8 k (by omega)]; simp [iv, hk]
end

set_option maxHeartbeats 1000000 in
theorem rlive (B t : Nat) (G : Gr) (x : Int) (w : World) (h : RefIs B w t G) :
    Calls Try.prog 17 #[.pointer (some ⟨t, 0, none⟩), .int .i64 x] w fun e w' => e = .returned (.bool (lv G x)) ∧ w' = w := by
  obtain ⟨gu, cu, gh, ch, U, -, hc0, hc1, hh, -, -⟩ := h.open
  clear h
  by_cases h0 : x < 0
  · have HP : Hid (lv G x = false) := lv_neg h0
    have hd : decide (0 ≤ x) = false := by simp; omega
    go_enter Try.func17, Try.ntmps17
    go_wp2
    go_ret
    exact ⟨by rw [HP.out]; rfl, rfl⟩
  · have hd0 : decide (0 ≤ x) = true := by simp; omega
    obtain ⟨k, rfl⟩ := Int.eq_ofNat_of_zero_le (by omega : 0 ≤ x)
    by_cases h1 : k < G.length
    · have hd1 : decide ((k : Int) < (G.length : Int)) = true := by simp; omega
      obtain ⟨b, hb⟩ : ∃ b, b = G[k].2 := ⟨_, rfl⟩
      have hk := hh k h1
      have HP : Hid (lv G k = b) := by show _ = _; rw [lv_nat h1, hb]
      rw [← hb] at hk
      clear hb hh
      go_enter Try.func17, Try.ntmps17
      go_wp2
      go_ret
      exact ⟨by rw [HP.out]; rfl, rfl⟩
    · have HP : Hid (lv G k = false) := lv_high (by omega)
      have hd1 : decide ((k : Int) < (G.length : Int)) = false := by simp; omega
      clear hh
      go_enter Try.func17, Try.ntmps17
      go_wp2
      go_ret
      exact ⟨by rw [HP.out]; rfl, rfl⟩

set_option maxHeartbeats 1000000 in
theorem rpar (B t : Nat) (G : Gr) (x : Int) (w : World) (h : RefIs B w t G) :
    Calls Try.prog 19 #[.pointer (some ⟨t, 0, none⟩), .int .i64 x] w fun e w' => e = .returned (.int .i64 (par G x)) ∧ w' = w := by
  obtain ⟨gu, cu, gh, ch, U, hlen, hc0, hc1, hh, hu, hsame⟩ := h.open
  have HL : Hid (Calls Try.prog 17 #[.pointer (some ⟨t, 0, none⟩), .int .i64 x] w fun e w' => e = .returned (.bool (lv G x)) ∧ w' = w) := rlive B t G x w h
  clear h
  cases hl : lv G x with
  | false =>
    have HP : Hid (par G x = -1) := par_dead hl
    rw [hl] at HL
    clear hl hh hu hsame
    go_enter Try.func19, Try.ntmps19
    go_wp2_with fail
    refine HL.out.mono ?_
    rintro e w1 ⟨rfl, rfl⟩
    go_wp2_with fail
    go_ret
    exact ⟨by rw [HP.out]; rfl, rfl⟩
  | true =>
    have hx := lv_lo hl
    obtain ⟨k, rfl⟩ := Int.eq_ofNat_of_zero_le hx.1
    have h1 : k < G.length := by omega
    have h2 : k < U.length := by omega
    have hk := hu k h2
    have hG : G[k].2 = true := by rw [← lv_nat h1, hl]
    obtain ⟨b, hb⟩ : ∃ b, b = U[k] := ⟨_, rfl⟩
    have HP : Hid (par G k = b) := by show _ = _; rw [par_live hl, pr_nat h1, hb, hsame k h1 h2 hG]
    rw [← hb] at hk
    rw [hl] at HL
    clear hb hh hu hsame hl hx hG
    go_enter Try.func19, Try.ntmps19
    go_wp2_with fail
    refine HL.out.mono ?_
    rintro e w1 ⟨rfl, rfl⟩
    go_wp2_with fail
    go_ret
    exact ⟨by rw [HP.out]; rfl, rfl⟩

set_option maxHeartbeats 1000000 in
theorem rnew (w : World) : Calls Try.prog 10 #[] w fun e w' => ∃ t, e = .returned (.pointer (some ⟨t, 0, none⟩)) ∧ RefIs w.heap.size w' t newG ∧ Below w.heap.size w w' := by
  go_enter Try.func10, Try.ntmps10
  go_wp2
  go_ret
  have hr := RowAt.new ((w.alloc (.cells #[.int .i64 (-1)] 3)).alloc (.cells #[.bool true] 4)) #[.slice (some ⟨w.heap.size, 0, none⟩) 1 1, .slice (some ⟨w.heap.size + 1, 0, none⟩) 1 1] 38
  rw [World.size_alloc, World.size_alloc] at hr
  refine ⟨_, rfl, ⟨⟨_, _, [-1], hr, ?_, ?_, rfl, fun k hk hk2 _ => ?_⟩, by omega, ok_new⟩, ?_⟩
  · refine World.ownsRow.alloc (World.ownsRow.alloc ?_ _) _
    exact World.ownsRow_lit w #[.int .i64 (-1)] 1 (Nat.le_refl _) (by decide) rfl
  · refine World.ownsRow.alloc ?_ _
    have := World.ownsRow_lit (base := w.heap.size) (e := 4) (size := 1) (w.alloc (.cells #[.int .i64 (-1)] 3)) #[.bool true] 1 (by simp) (by decide) rfl
    rw [World.size_alloc] at this
    exact this
  · have : k = 0 := by have : k < 1 := hk; omega
    subst this
    rfl
  · exact (below_alloc _ _).trans (((below_alloc _ _).mono (by simp)).trans ((below_alloc _ _).mono (by simp; omega)))
end Go.Proofs.Ytbceadnhfihlfaa
