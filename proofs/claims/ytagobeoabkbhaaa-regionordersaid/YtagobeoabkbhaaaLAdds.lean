/-
  RegionAdds, walked.
-/
import Derived.Test.YtagobeoabkbhaaaWorks
import Derived.Test.YtagobeoabkbhaaaOpen
namespace Go.Proofs.Ytagobeoabkbhaaa
open Go.RowKit

theorem eq25_same (x : Rg) (w : World) : (Op.equalIn 10000 25 (rv x) (rv x)).run Try.prog w = .ok true w := by rw [eq25, eqR_same]
theorem eq37_same (f i : Int) (w : World) : (Op.equalIn 10000 37 (.agg #[.int .i64 f, .int .i64 i]) (.agg #[.int .i64 f, .int .i64 i])).run Try.prog w = .ok true w := by rw [eq37]; simp
/-- What an addition answers, its list named. -/
theorem addOut {f : FuncId} {args : Array Value} {w : World} {L : List Rg} {x : Rg} {R : List Rg} {E : Int} (hR : addR L x = R) (hE : addE L x = E) (h : Calls Try.prog f args w (AddPost w L x)) :
    Calls Try.prog f args w fun e w' => ∃ a c, e = .returned (.tuple #[.slice a R.length c, .int .i64 E]) ∧ Regs w' a c R ∧ Below w.heap.size w w' := by
  refine h.mono ?_
  rintro e w' ⟨a, c, N, rfl, he, hr, hb⟩
  rw [hE] at he
  rw [hR] at he hr
  exact ⟨a, c, he, hr, hb⟩
theorem cutOut {f : FuncId} {args : Array Value} {w : World} {L : List Rg} {s t : Int} {R : List Rg} (hR : cutR L s t = R) (h : Calls Try.prog f args w fun e w' => ∃ a' c' N, N = cutR L s t ∧ e = .returned (.slice a' N.length c') ∧ Regs w' a' c' N ∧ Below w.heap.size w w') :
    Calls Try.prog f args w fun e w' => ∃ a c, e = .returned (.slice a R.length c) ∧ Regs w' a c R ∧ Below w.heap.size w w' := by
  refine h.mono ?_
  rintro e w' ⟨a, c, N, rfl, he, hr, hb⟩
  rw [hR] at he hr
  exact ⟨a, c, he, hr, hb⟩
theorem addR_len (L : List Rg) (x : Rg) : (addR L x).length ≤ L.length + 1 := by
  unfold addR
  split
  · rw [addL_length]; exact Nat.le_refl _
  · simp

set_option maxRecDepth 100000 in
set_option maxHeartbeats 8000000 in
theorem adds_walk (a : Option Addr) (cap : Nat) (L : List Rg) (x : Rg) (p : Int) (w : World) (h : ListIn w a cap L) :
    Calls Try.prog 3 #[.slice a L.length cap, rv x, .int .i64 p] w fun e w' => e = .returned (.bool true) ∧ Below w.heap.size w w' := by
  obtain ⟨hreg, -⟩ := h
  show Calls Try.prog 3 #[.slice a L.length cap, .agg #[.int .i64 x.f, .int .i64 x.t, .int .i64 x.k, .int .i64 x.fi, .int .i64 x.ix, .bool x.wr], .int .i64 p] w fun e w' => e = .returned (.bool true) ∧ Below w.heap.size w w'
  obtain ⟨w0, hw0, hr0, hB0, -⟩ := boxOn w w x (Below.refl _ _)
  by_cases h80 : 80 < L.length
  · have q : decide (80 < L.length) = true := by simp; omega
    go_enter Try.func3, Try.ntmps3
    go_wp2_with fail
    rw [← hw0]
    refine (works _).mono ?_
    rintro e w1 ⟨rfl, hb1⟩
    go_wp2
    go_ret
    exact ⟨rfl, bel_trans hB0 hb1⟩
  · have q : decide (80 < L.length) = false := by simp; omega
    have hL : L.length ≤ 1000 := by omega
    obtain ⟨R, hR⟩ : ∃ R, addR L x = R := ⟨_, rfl⟩
    obtain ⟨E, hE⟩ : ∃ E, addE L x = E := ⟨_, rfl⟩
    obtain ⟨O, hO⟩ : ∃ O, fnd L p = O := ⟨_, rfl⟩
    obtain ⟨S, hS⟩ : ∃ S, O.isSome = S := ⟨_, rfl⟩
    obtain ⟨y, hy⟩ : ∃ y, fV O = y := ⟨_, rfl⟩
    obtain ⟨T, hT⟩ : ∃ T, rt 0 L = T := ⟨_, rfl⟩
    obtain ⟨V, hV⟩ : ∃ V, vd x = V := ⟨_, rfl⟩
    obtain ⟨G, hG⟩ : ∃ G, pgR L = G := ⟨_, rfl⟩
    obtain ⟨kf, hkf⟩ : ∃ kf, kF x = kf := ⟨_, rfl⟩
    obtain ⟨ki, hki⟩ : ∃ ki, kI x p = ki := ⟨_, rfl⟩
    have HRL : Hid (R.length ≤ 1000) := by show _ ≤ _; rw [← hR]; have := addR_len L x; omega
    have H11 : Hid (∀ w, Regs w a cap L → Calls Try.prog 11 #[.slice a L.length cap, rv x] w fun e w' => ∃ a c, e = .returned (.tuple #[.slice a R.length c, .int .i64 E]) ∧ Regs w' a c R ∧ Below w.heap.size w w') := fun w h => addOut hR hE (padd a cap L x w h hL)
    have H12 : Hid (∀ w, Regs w a cap L → Calls Try.prog 12 #[.slice a L.length cap, rv x] w fun e w' => ∃ a c, e = .returned (.tuple #[.slice a R.length c, .int .i64 E]) ∧ Regs w' a c R ∧ Below w.heap.size w w') := fun w h => addOut hR hE (radd a cap L x w h hL)
    have H13 : Hid (∀ w, Regs w a cap L → Calls Try.prog 13 #[.slice a L.length cap, .int .i64 p] w fun e w' => e = .returned (.tuple #[rv y, .bool S]) ∧ Below w.heap.size w w') := by
      intro w h
      have := pfind a cap L p w h hL
      rw [hO] at this
      simp only [fT, hS, hy] at this
      exact this
    have H14 : Hid (∀ w, Regs w a cap L → Calls Try.prog 14 #[.slice a L.length cap, .int .i64 p] w fun e w' => e = .returned (.tuple #[rv y, .bool S]) ∧ Below w.heap.size w w') := by
      intro w h
      have := rfind a cap L p w h hL
      rw [hO] at this
      simp only [fT, hS, hy] at this
      exact this
    have H15 : Hid (∀ w a b ca cb, Regs w a ca R → Regs w b cb R → Calls Try.prog 15 #[.slice a R.length ca, .slice b R.length cb] w fun e w' => e = .returned (.bool true) ∧ Below w.heap.size w w') := by
      intro w a b ca cb h1 h2
      have := rsame a b ca cb R R w h1 h2 HRL.out
      rw [sameL_same] at this
      exact this
    have H16 : Hid (∀ w, Regs w a cap L → Calls Try.prog 16 #[.slice a L.length cap] w fun e w' => e = .returned (.bool T) ∧ Below w.heap.size w w') := by
      intro w h
      have := rright a cap L w h (by omega)
      rw [hT] at this
      exact this
    have H17 : Hid (∀ w, Calls Try.prog 17 #[rv x] w fun e w' => e = .returned (.bool V) ∧ Below w.heap.size w w') := by
      intro w
      have := pvalid x w
      rw [hV] at this
      exact this
    have H18 : Hid (∀ w, Calls Try.prog 18 #[rv x] w fun e w' => e = .returned (.bool V) ∧ Below w.heap.size w w') := by
      intro w
      have := rvalid x w
      rw [hV] at this
      exact this
    have H19 : Hid (∀ w, Regs w a cap L → Calls Try.prog 19 #[.slice a L.length cap] w fun e w' => e = .returned (.bool T) ∧ Below w.heap.size w w') := by
      intro w h
      have := pright a cap L w h (by omega)
      rw [hT] at this
      exact this
    have H20 : Hid (∀ w, Regs w a cap L → Calls Try.prog 20 #[.slice a L.length cap] w fun e w' => e = .returned (.int .i64 G) ∧ Below w.heap.size w w') := by
      intro w h
      have := ppages a cap L w h hL
      rw [hG] at this
      exact this
    have H21 : Hid (∀ w, Regs w a cap L → Calls Try.prog 21 #[.slice a L.length cap] w fun e w' => e = .returned (.int .i64 G) ∧ Below w.heap.size w w') := by
      intro w h
      have := rpages a cap L w h hL
      rw [hG] at this
      exact this
    have H22 : Hid (∀ w, Calls Try.prog 22 #[rv x, .int .i64 p] w fun e w' => e = .returned (.agg #[.int .i64 kf, .int .i64 ki]) ∧ Below w.heap.size w w') := by
      intro w
      have := pkey x p w
      rw [hkf, hki] at this
      exact this
    have H23 : Hid (∀ w, Calls Try.prog 23 #[rv x, .int .i64 p] w fun e w' => e = .returned (.agg #[.int .i64 kf, .int .i64 ki]) ∧ Below w.heap.size w w') := by
      intro w
      have := rkey x p w
      rw [hkf, hki] at this
      exact this
    have e25 := eq25_same y
    have e37 := eq37_same kf ki
    clear hR hE hO hS hy hT hV hG hkf hki O
    go_enter Try.func3, Try.ntmps3
    go_wp2_with fail
    rw [← hw0]
    clear hw0
    refine (works _).mono ?_
    rintro e w1 ⟨rfl, hb1⟩
    have hx1 := hr0.later hb1
    have hB1 := bel_trans hB0 hb1
    clear hr0 hB0 hb1
    obtain ⟨k0, k1, k2, k3, k4, k5⟩ := hx1.six
    go_wp2_with fail
    refine (H11.out _ (hreg.later hB1)).mono ?_
    rintro e w2 ⟨a2, c2, rfl, hr2, hb2⟩
    have hx2 := hx1.later hb2
    have hB2 := bel_trans hB1 hb2
    clear hx1 hB1 hb2 k0 k1 k2 k3 k4 k5
    obtain ⟨k0, k1, k2, k3, k4, k5⟩ := hx2.six
    go_wp2_with fail
    refine (H12.out _ (hreg.later hB2)).mono ?_
    rintro e w3 ⟨a3, c3, rfl, hr3, hb3⟩
    have hx3 := hx2.later hb3
    have hB3 := bel_trans hB2 hb3
    have hr2' := hr2.later hb3
    clear hx2 hB2 hb3 k0 k1 k2 k3 k4 k5 hr2
    go_wp2_with fail
    refine (H13.out _ (hreg.later hB3)).mono ?_
    rintro e w4 ⟨rfl, hb4⟩
    have hx4 := hx3.later hb4
    have hB4 := bel_trans hB3 hb4
    have hr24 := hr2'.later hb4
    have hr34 := hr3.later hb4
    clear hx3 hB3 hb4 hr2' hr3
    obtain ⟨w5, hw5, hy5, hB5, hb5⟩ := boxOn w w4 y hB4
    go_wp2_with fail
    rw [← hw5]
    have hx5 := hx4.later hb5
    have hr25 := hr24.later hb5
    have hr35 := hr34.later hb5
    clear hw5 hx4 hb5 hr24 hr34 hB4
    refine (H14.out _ (hreg.later hB5)).mono ?_
    rintro e w6 ⟨rfl, hb6⟩
    have hx6 := hx5.later hb6
    have hB6 := bel_trans hB5 hb6
    have hr26 := hr25.later hb6
    have hr36 := hr35.later hb6
    have hy6 := hy5.later hb6
    clear hx5 hB5 hb6 hr25 hr35 hy5
    obtain ⟨w7, hw7, hz7, hB7, hb7⟩ := boxOn w w6 y hB6
    go_wp2_with fail
    rw [← hw7]
    have hx7 := hx6.later hb7
    have hr27 := hr26.later hb7
    have hr37 := hr36.later hb7
    have hy7 := hy6.later hb7
    clear hw7 hx6 hb7 hr26 hr36 hy6 hB6
    refine (H15.out _ _ _ _ _ hr27 hr37).mono ?_
    rintro e w8 ⟨rfl, hb8⟩
    have hx8 := hx7.later hb8
    have hB8 := bel_trans hB7 hb8
    have hy8 := hy7.later hb8
    have hz8 := hz7.later hb8
    clear hx7 hB7 hb8 hr27 hr37 hy7 hz7
    go_wp2_with fail
    refine (H16.out _ (hreg.later hB8)).mono ?_
    rintro e w9 ⟨rfl, hb9⟩
    have hx9 := hx8.later hb9
    have hB9 := bel_trans hB8 hb9
    have hy9 := hy8.later hb9
    have hz9 := hz8.later hb9
    have hreg9 := hreg.later hB9
    clear hx8 hB8 hb9 hy8 hz8 hreg
    go_wp2_with fail
    obtain ⟨k0, k1, k2, k3, k4, k5⟩ := hx9.six
    obtain ⟨y0, y1, y2, y3, y4, y5⟩ := hy9.six
    obtain ⟨z0, z1, z2, z3, z4, z5⟩ := hz9.six
    have l0 := Up.cell k0
    have l1 := Up.cell k1
    have l2 := Up.cell k2
    have l3 := Up.cell k3
    have l4 := Up.cell k4
    have l5 := Up.cell k5
    have m0 := Up.cell y0
    have m1 := Up.cell y1
    have m2 := Up.cell y2
    have m3 := Up.cell y3
    have m4 := Up.cell y4
    have m5 := Up.cell y5
    have n0 := Up.cell z0
    have n1 := Up.cell z1
    have n2 := Up.cell z2
    have n3 := Up.cell z3
    have n4 := Up.cell z4
    have n5 := Up.cell z5
    have hne := Up.any w9
    refine wp_region_up (by kernel_rfl) (by kernel_rfl) ?_
    repeat (go_big_quiet_step (first | (go_at_call 17; refine Up.call (H17.out _)) | (go_at_call 18; refine Up.call (H18.out _)) | (go_at_call 19; refine Up.call (H19.out _ (hreg9.later (Up.h _)))) | (go_at_call 20; refine Up.call (H20.out _ (hreg9.later (Up.h _)))) | (go_at_call 21; refine Up.call (H21.out _ (hreg9.later (Up.h _)))) | (go_at_call 22; refine Up.call (H22.out _)) | (go_at_call 23; refine Up.call (H23.out _))))
    refine wpQuiet_nil ?_
    intro _ hw'
    obtain ⟨⟨w10, hbw⟩, rfl⟩ := hw'
    go_wp2
    go_ret
    exact ⟨rfl, bel_trans hB9 hbw⟩
end Go.Proofs.Ytagobeoabkbhaaa
