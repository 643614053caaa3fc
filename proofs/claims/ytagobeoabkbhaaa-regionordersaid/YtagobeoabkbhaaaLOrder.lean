/-
  RegionOrder, walked.
-/
import Derived.Test.YtagobeoabkbhaaaLAdds
namespace Go.Proofs.Ytagobeoabkbhaaa
open Go.RowKit

set_option maxRecDepth 100000 in
set_option maxHeartbeats 8000000 in
theorem order_walk (a : Option Addr) (cap : Nat) (L : List Rg) (x y : Rg) (w : World) (h : ListIn w a cap L) :
    Calls Try.prog 8 #[.slice a L.length cap, rv x, rv y] w fun e w' => e = .returned (.bool true) ∧ Below w.heap.size w w' := by
  obtain ⟨hreg, -⟩ := h
  show Calls Try.prog 8 #[.slice a L.length cap, .agg #[.int .i64 x.f, .int .i64 x.t, .int .i64 x.k, .int .i64 x.fi, .int .i64 x.ix, .bool x.wr], .agg #[.int .i64 y.f, .int .i64 y.t, .int .i64 y.k, .int .i64 y.fi, .int .i64 y.ix, .bool y.wr]] w fun e w' => e = .returned (.bool true) ∧ Below w.heap.size w w'
  have hh := two_boxes w (.cells #[.int .i64 x.f, .int .i64 x.t, .int .i64 x.k, .int .i64 x.fi, .int .i64 x.ix, .bool x.wr] 25) y
  have hx0 := ((RowAt.new w #[.int .i64 x.f, .int .i64 x.t, .int .i64 x.k, .int .i64 x.fi, .int .i64 x.ix, .bool x.wr] 25).alloc (.cells #[.int .i64 y.f, .int .i64 y.t, .int .i64 y.k, .int .i64 y.fi, .int .i64 y.ix, .bool y.wr] 25))
  obtain ⟨w0, hw0⟩ : ∃ w0, w0 = (w.alloc (.cells #[.int .i64 x.f, .int .i64 x.t, .int .i64 x.k, .int .i64 x.fi, .int .i64 x.ix, .bool x.wr] 25)).alloc (.cells #[.int .i64 y.f, .int .i64 y.t, .int .i64 y.k, .int .i64 y.fi, .int .i64 y.ix, .bool y.wr] 25) := ⟨_, rfl⟩
  rw [← hw0] at hh hx0
  have hx0 : RowAt w0 w.heap.size 25 (rc x) := hx0
  obtain ⟨hy0, hB0⟩ := hh
  by_cases h80 : 60 < L.length
  · have q : decide (60 < L.length) = true := by simp; omega
    go_enter Try.func8, Try.ntmps8
    go_wp2_with fail
    rw [← hw0]
    refine (works _).mono ?_
    rintro e w1 ⟨rfl, hb1⟩
    go_wp2
    go_ret
    exact ⟨rfl, bel_trans hB0 hb1⟩
  · have q : decide (60 < L.length) = false := by simp; omega
    have hL : L.length ≤ 1000 := by omega
    have HORD : Hid (addE L x = 0 → addE L y = 0 → addE (addR L x) y = addE (addR L y) x ∧ addR (addR L x) y = addR (addR L y) x) := fun h1 h2 => add_order (by omega) h1 h2
    obtain ⟨A, hA⟩ : ∃ A, addR L x = A := ⟨_, rfl⟩
    obtain ⟨B, hB⟩ : ∃ B, addR L y = B := ⟨_, rfl⟩
    obtain ⟨E, hE⟩ : ∃ E, addE L x = E := ⟨_, rfl⟩
    obtain ⟨F, hF⟩ : ∃ F, addE L y = F := ⟨_, rfl⟩
    have hAl : A.length ≤ 1000 := by rw [← hA]; have := addR_len L x; omega
    have hBl : B.length ≤ 1000 := by rw [← hB]; have := addR_len L y; omega
    have H1 : Hid (∀ w, Regs w a cap L → Calls Try.prog 11 #[.slice a L.length cap, rv x] w fun e w' => ∃ a c, e = .returned (.tuple #[.slice a A.length c, .int .i64 E]) ∧ Regs w' a c A ∧ Below w.heap.size w w') := fun w h => addOut hA hE (padd a cap L x w h hL)
    have H2 : Hid (∀ w, Regs w a cap L → Calls Try.prog 11 #[.slice a L.length cap, rv y] w fun e w' => ∃ a c, e = .returned (.tuple #[.slice a B.length c, .int .i64 F]) ∧ Regs w' a c B ∧ Below w.heap.size w w') := fun w h => addOut hB hF (padd a cap L y w h hL)
    rw [hA, hB, hE, hF] at HORD
    obtain ⟨C, hC⟩ : ∃ C, addR A y = C := ⟨_, rfl⟩
    obtain ⟨G, hG⟩ : ∃ G, addE A y = G := ⟨_, rfl⟩
    obtain ⟨D, hD⟩ : ∃ D, addR B x = D := ⟨_, rfl⟩
    obtain ⟨J, hJ⟩ : ∃ J, addE B x = J := ⟨_, rfl⟩
    have hCl : C.length ≤ 1000 := by rw [← hC]; have := addR_len A y; have h2 := addR_len L x; rw [hA] at h2; omega
    have H3 : Hid (∀ w a c, Regs w a c A → Calls Try.prog 11 #[.slice a A.length c, rv y] w fun e w' => ∃ a c, e = .returned (.tuple #[.slice a C.length c, .int .i64 G]) ∧ Regs w' a c C ∧ Below w.heap.size w w') := fun w a c h => addOut hC hG (padd a c A y w h hAl)
    have H4 : Hid (∀ w a c, Regs w a c B → Calls Try.prog 11 #[.slice a B.length c, rv x] w fun e w' => ∃ a c, e = .returned (.tuple #[.slice a D.length c, .int .i64 J]) ∧ Regs w' a c D ∧ Below w.heap.size w w') := fun w a c h => addOut hD hJ (padd a c B x w h hBl)
    rw [hC, hD, hG, hJ] at HORD
    have H15 : Hid (∀ w a b ca cb, Regs w a ca C → Regs w b cb C → Calls Try.prog 15 #[.slice a C.length ca, .slice b C.length cb] w fun e w' => e = .returned (.bool true) ∧ Below w.heap.size w w') := by
      intro w a b ca cb h1 h2
      have := rsame a b ca cb C C w h1 h2 hCl
      rw [sameL_same] at this
      exact this
    clear hA hB hE hF hC hD hG hJ hAl hBl hCl
    by_cases hE0 : E = 0
    · by_cases hF0 : F = 0
      · obtain ⟨g1, g2⟩ := HORD.out hE0 hF0
        subst g1
        subst g2
        subst hE0
        subst hF0
        clear HORD
        go_enter Try.func8, Try.ntmps8
        go_wp2_with fail
        rw [← hw0]
        clear hw0
        refine (works _).mono ?_
        rintro e w1 ⟨rfl, hb1⟩
        have hx1 := hx0.later hb1
        have hy1 := hy0.later hb1
        have hB1 := bel_trans hB0 hb1
        clear hx0 hy0 hB0 hb1
        obtain ⟨k0, k1, k2, k3, k4, k5⟩ := hx1.six
        obtain ⟨y0, y1, y2, y3, y4, y5⟩ := hy1.six
        go_wp2_with fail
        refine (H1.out _ (hreg.later hB1)).mono ?_
        rintro e w2 ⟨a2, c2, rfl, hr2, hb2⟩
        have hx2 := hx1.later hb2
        have hy2 := hy1.later hb2
        have hB2 := bel_trans hB1 hb2
        clear hx1 hy1 hB1 hb2 k0 k1 k2 k3 k4 k5 y0 y1 y2 y3 y4 y5
        obtain ⟨k0, k1, k2, k3, k4, k5⟩ := hx2.six
        obtain ⟨y0, y1, y2, y3, y4, y5⟩ := hy2.six
        go_wp2_with fail
        refine (H2.out _ (hreg.later hB2)).mono ?_
        rintro e w3 ⟨a3, c3, rfl, hr3, hb3⟩
        have hx3 := hx2.later hb3
        have hy3 := hy2.later hb3
        have hB3 := bel_trans hB2 hb3
        have hr23 := hr2.later hb3
        clear hx2 hy2 hB2 hb3 hr2 k0 k1 k2 k3 k4 k5 y0 y1 y2 y3 y4 y5
        obtain ⟨k0, k1, k2, k3, k4, k5⟩ := hx3.six
        obtain ⟨y0, y1, y2, y3, y4, y5⟩ := hy3.six
        go_wp2_with fail
        refine (H3.out _ _ _ hr23).mono ?_
        rintro e w4 ⟨a4, c4, rfl, hr4, hb4⟩
        have hx4 := hx3.later hb4
        have hB4 := bel_trans hB3 hb4
        have hr34 := hr3.later hb4
        clear hx3 hy3 hB3 hb4 hr3 hr23 k0 k1 k2 k3 k4 k5 y0 y1 y2 y3 y4 y5
        obtain ⟨k0, k1, k2, k3, k4, k5⟩ := hx4.six
        go_wp2_with fail
        refine (H4.out _ _ _ hr34).mono ?_
        rintro e w5 ⟨a5, c5, rfl, hr5, hb5⟩
        have hB5 := bel_trans hB4 hb5
        have hr45 := hr4.later hb5
        clear hx4 hB4 hb5 hr4 hr34 k0 k1 k2 k3 k4 k5
        go_wp2_with fail
        refine (H15.out _ _ _ _ _ hr45 hr5).mono ?_
        rintro e w6 ⟨rfl, hb6⟩
        have q2 : (G == G) = true := by simp
        go_wp2
        go_ret
        exact ⟨rfl, bel_trans hB5 hb6⟩
      · have q1 : (F != 0) = true := by simp; omega
        subst hE0
        clear HORD H3 H4 H15 hF0
        go_enter Try.func8, Try.ntmps8
        go_wp2_with fail
        rw [← hw0]
        clear hw0
        refine (works _).mono ?_
        rintro e w1 ⟨rfl, hb1⟩
        have hx1 := hx0.later hb1
        have hy1 := hy0.later hb1
        have hB1 := bel_trans hB0 hb1
        clear hx0 hy0 hB0 hb1
        obtain ⟨k0, k1, k2, k3, k4, k5⟩ := hx1.six
        obtain ⟨y0, y1, y2, y3, y4, y5⟩ := hy1.six
        go_wp2_with fail
        refine (H1.out _ (hreg.later hB1)).mono ?_
        rintro e w2 ⟨a2, c2, rfl, hr2, hb2⟩
        have hy2 := hy1.later hb2
        have hB2 := bel_trans hB1 hb2
        clear hx1 hy1 hB1 hb2 k0 k1 k2 k3 k4 k5 y0 y1 y2 y3 y4 y5
        obtain ⟨y0, y1, y2, y3, y4, y5⟩ := hy2.six
        go_wp2_with fail
        refine (H2.out _ (hreg.later hB2)).mono ?_
        rintro e w3 ⟨a3, c3, rfl, hr3, hb3⟩
        go_wp2
        go_ret
        exact ⟨rfl, bel_trans hB2 hb3⟩
    · have q1 : (E != 0) = true := by simp; omega
      clear HORD H3 H4 H15 hE0
      go_enter Try.func8, Try.ntmps8
      go_wp2_with fail
      rw [← hw0]
      clear hw0
      refine (works _).mono ?_
      rintro e w1 ⟨rfl, hb1⟩
      have hx1 := hx0.later hb1
      have hy1 := hy0.later hb1
      have hB1 := bel_trans hB0 hb1
      clear hx0 hy0 hB0 hb1
      obtain ⟨k0, k1, k2, k3, k4, k5⟩ := hx1.six
      obtain ⟨y0, y1, y2, y3, y4, y5⟩ := hy1.six
      go_wp2_with fail
      refine (H1.out _ (hreg.later hB1)).mono ?_
      rintro e w2 ⟨a2, c2, rfl, hr2, hb2⟩
      have hy2 := hy1.later hb2
      have hB2 := bel_trans hB1 hb2
      clear hx1 hy1 hB1 hb2 k0 k1 k2 k3 k4 k5 y0 y1 y2 y3 y4 y5
      obtain ⟨y0, y1, y2, y3, y4, y5⟩ := hy2.six
      go_wp2_with fail
      refine (H2.out _ (hreg.later hB2)).mono ?_
      rintro e w3 ⟨a3, c3, rfl, hr3, hb3⟩
      go_wp2
      go_ret
      exact ⟨rfl, bel_trans hB2 hb3⟩
end Go.Proofs.Ytagobeoabkbhaaa
