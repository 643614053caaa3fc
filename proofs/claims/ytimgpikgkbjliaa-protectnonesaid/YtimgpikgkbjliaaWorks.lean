/-
  The document's example.
-/
import Derived.Test.YtimgpikgkbjliaaP8
import Derived.Test.YtimgpikgkbjliaaP9
namespace Go.Proofs.Ytimgpikgkbjliaa
open Go.RowKit

def smp : List Nd := [⟨-1, 12, 0⟩, ⟨0, 8, 10⟩, ⟨1, 6, 6⟩, ⟨1, 6, 6⟩]
theorem smp_vd : vd smp = true := by decide +kernel
theorem smp_eff : effL smp 0 = [0, 8, 4, 4] := by decide +kernel
theorem smp_over : overL smp [0, 8, 4, 4] 0 = [12, 0, 0, 0] := by decide +kernel
theorem smp_held : held smp [0, 8, 4, 4] 0 2 = true := by decide +kernel
theorem smp_not : held smp [0, 8, 4, 4] 1 2 = false := by decide +kernel

set_option maxHeartbeats 4000000 in
theorem psample (w : World) : Calls Try.prog 21 #[] w fun e w' => ∃ a c, e = .returned (.slice a 4 c) ∧ Nds w' a c smp ∧ Below w.heap.size w w' := by
  go_enter Try.func21, Try.ntmps21
  go_wp2
  go_ret
  refine ⟨_, _, rfl, ?_, below_alloc _ _⟩
  have h := RowAt.new w #[.int .i64 (-1), .int .i64 12, .int .i64 0, .int .i64 0, .int .i64 8, .int .i64 10, .int .i64 1, .int .i64 6, .int .i64 6, .int .i64 1, .int .i64 6, .int .i64 6] 38
  refine ⟨by decide, fun h => (by cases h), fun j hj => ⟨_, 0, rfl, fun i v hv => ?_⟩⟩
  have hi : i < 3 := by
    have := (List.getElem?_eq_some_iff.1 hv).1
    simpa [nc] using this
  have hj4 : j < 4 := hj
  rw [h.cell, ← hv]
  have h1 : j = 0 ∨ j = 1 ∨ j = 2 ∨ j = 3 := by omega
  have h2 : i = 0 ∨ i = 1 ∨ i = 2 := by omega
  rcases h1 with rfl | rfl | rfl | rfl <;> rcases h2 with rfl | rfl | rfl <;> rfl

/-- Four ints. -/
theorem Ints.four {w : World} {a : Option Addr} {x0 x1 x2 x3 : Int} (h : Ints w a [x0, x1, x2, x3]) :
    ∃ b off, a = some ⟨b, off, none⟩ ∧ w.cell? ⟨b, off, none⟩ = some (.int .i64 x0) ∧ w.cell? ⟨b, off + 1, none⟩ = some (.int .i64 x1) ∧ w.cell? ⟨b, off + 2, none⟩ = some (.int .i64 x2) ∧ w.cell? ⟨b, off + 3, none⟩ = some (.int .i64 x3) := by
  obtain ⟨b, off, rfl, h0⟩ := h.at' 0 (by simp)
  obtain ⟨b1, off1, e1, h1⟩ := h.at' 1 (by simp)
  obtain ⟨b2, off2, e2, h2⟩ := h.at' 2 (by simp)
  obtain ⟨b3, off3, e3, h3⟩ := h.at' 3 (by simp)
  injection e1 with e1; injection e1 with e1 f1; subst e1 f1
  injection e2 with e2; injection e2 with e2 f2; subst e2 f2
  injection e3 with e3; injection e3 with e3 f3; subst e3 f3
  exact ⟨b, off, rfl, h0, h1, h2, h3⟩

set_option maxRecDepth 100000 in
set_option maxHeartbeats 8000000 in
theorem works (w : World) : Calls Try.prog 9 #[] w fun e w' => e = .returned (.bool true) ∧ Below w.heap.size w w' := by
  have H1 : Hid (∀ w a c, Nds w a c smp → Calls Try.prog 11 #[.slice a 4 c, .int .i64 0] w fun e w' => ∃ a c, e = .returned (.slice a 4 c) ∧ Ints w' a [0, 8, 4, 4] ∧ Below w.heap.size w w') := by
    intro w a c h
    refine (peff a c smp 0 w h (by decide)).mono ?_
    rintro e w' ⟨a, c, rfl, hi, hb⟩
    rw [smp_eff] at hi ⊢
    exact ⟨a, c, rfl, hi, hb⟩
  have H2 : Hid (∀ w a c a2 c2, Nds w a c smp → Ints w a2 [0, 8, 4, 4] → Calls Try.prog 18 #[.slice a 4 c, .slice a2 4 c2, .int .i64 0] w fun e w' => ∃ a c, e = .returned (.slice a 4 c) ∧ Ints w' a [12, 0, 0, 0] ∧ Below w.heap.size w w') := by
    intro w a c a2 c2 h h2
    refine (pover a c smp a2 c2 [0, 8, 4, 4] 0 w h h2 (by decide) (by decide) ?_).mono ?_
    · intro i hi
      have : i = 0 ∨ i = 1 ∨ i = 2 ∨ i = 3 := by simp at hi; omega
      rcases this with rfl | rfl | rfl | rfl <;> decide
    rintro e w' ⟨a, c, rfl, hi, hb⟩
    rw [smp_over] at hi ⊢
    exact ⟨a, c, rfl, hi, hb⟩
  have H3 : Hid (∀ w a c a2 c2, Nds w a c smp → Ints w a2 [0, 8, 4, 4] → Calls Try.prog 17 #[.slice a 4 c, .slice a2 4 c2, .int .i64 0, .int .i64 2] w fun e w' => e = .returned (.bool true) ∧ Below w.heap.size w w') := by
    intro w a c a2 c2 h h2
    have := pHeld a c smp a2 c2 [0, 8, 4, 4] 0 2 w h h2 (by decide) (by decide)
    rw [smp_held] at this
    exact this
  have H4 : Hid (∀ w a c a2 c2, Nds w a c smp → Ints w a2 [0, 8, 4, 4] → Calls Try.prog 17 #[.slice a 4 c, .slice a2 4 c2, .int .i64 1, .int .i64 2] w fun e w' => e = .returned (.bool false) ∧ Below w.heap.size w w') := by
    intro w a c a2 c2 h h2
    have := pHeld a c smp a2 c2 [0, 8, 4, 4] 1 2 w h h2 (by decide) (by decide)
    rw [smp_not] at this
    exact this
  have H5 : Hid (∀ w a c, Nds w a c smp → Calls Try.prog 14 #[.slice a 4 c] w fun e w' => e = .returned (.bool true) ∧ Below w.heap.size w w') := by
    intro w a c h
    have := pvalid a c smp w h (by decide)
    rw [smp_vd] at this
    exact this
  go_enter Try.func9, Try.ntmps9
  go_wp2_with fail
  refine (psample _).mono ?_
  rintro e w1 ⟨a, c, rfl, hl1, hb1⟩
  go_wp2_with fail
  refine (H1.out _ _ _ hl1).mono ?_
  rintro e w2 ⟨a2, c2, rfl, he2, hb2⟩
  have hl2 := hl1.later hb2
  have hB2 := bel_trans hb1 hb2
  clear hl1 hb1 hb2
  go_wp2_with fail
  refine (H2.out _ _ _ _ _ hl2 he2).mono ?_
  rintro e w3 ⟨a3, c3, rfl, ho3, hb3⟩
  have hl3 := hl2.later hb3
  have he3 := he2.later hb3
  have hB3 := bel_trans hB2 hb3
  clear hl2 he2 hB2 hb3
  have he3' := he3
  obtain ⟨b, off, rfl, k0, k1, k2, k3⟩ := he3.four
  go_wp2_with fail
  refine (H3.out _ _ _ _ _ hl3 he3').mono ?_
  rintro e w4 ⟨rfl, hb4⟩
  have hl4 := hl3.later hb4
  have he4 := he3'.later hb4
  have ho4 := ho3.later hb4
  have hB4 := bel_trans hB3 hb4
  clear hl3 he3' ho3 hB3 hb4 k0 k1 k2 k3
  go_wp2_with fail
  refine (H4.out _ _ _ _ _ hl4 he4).mono ?_
  rintro e w5 ⟨rfl, hb5⟩
  have hl5 := hl4.later hb5
  have ho5 := ho4.later hb5
  have hB5 := bel_trans hB4 hb5
  clear hl4 he4 ho4 hB4 hb5
  obtain ⟨bo, offo, rfl, o0, o1, o2, o3⟩ := ho5.four
  go_wp2_with fail
  refine (H5.out _ _ _ hl5).mono ?_
  rintro e w6 ⟨rfl, hb6⟩
  go_wp2
  go_ret
  exact ⟨rfl, bel_trans hB5 hb6⟩
end Go.Proofs.Ytimgpikgkbjliaa
