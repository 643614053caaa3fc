/-
  The contracts of both Find.
-/
import Derived.Test.YtagobeoabkbhaaaP6
namespace Go.Proofs.Ytagobeoabkbhaaa
open Go.RowKit

/-- What is returned, where the first result is a region in a cell of its own. -/
theorem res2 {fn : Func} {p u : Tmp} (h : fn.results = #[.cell p 25, .tmp u]) (tmps : Array Value) (w : World) (g : Nat) (x : Rg)
    (hp : tmps.getD p undef = .pointer (some ⟨g, 0, none⟩)) (hg : RowAt w g 25 (rc x)) :
    (results fn tmps).run Try.prog w = .ok (.tuple #[rv x, tmps.getD u undef]) w := by
  have hl := run_loadVar_row (P := Try.prog) w g 25 25 #[.int .i64 x.f, .int .i64 x.t, .int .i64 x.k, .int .i64 x.fi, .int .i64 x.ix, .bool x.wr] (0, 0) _ hg under25 rfl (by kernel_rfl)
  rw [results_cell_tmp h, hp]
  simp [asAddr, hl, Result.andThen]
theorem zeroBox (w : World) : RowAt (w.alloc (.cells #[.int .i64 0, .int .i64 0, .int .i64 0, .int .i64 0, .int .i64 0, .bool false] 25)) w.heap.size 25 (rc zeroR) := RowAt.new w _ 25
abbrev fT (o : Option Rg) : Value := .tuple #[rv (fV o), .bool o.isSome]

set_option maxHeartbeats 4000000 in
theorem pfind (a : Option Addr) (cap : Nat) (L : List Rg) (p : Int) (w : World) (h : Regs w a cap L) (hL : L.length ≤ 1000) :
    Calls Try.prog 13 #[.slice a L.length cap, .int .i64 p] w fun e w' => e = .returned (fT (fnd L p)) ∧ Below w.heap.size w w' := by
  have HR1 : Hid (∀ w, Regs w a cap L → Calls Try.prog 19 #[.slice a L.length cap] w fun e w' => e = .returned (.bool (rt 0 L)) ∧ Below w.heap.size w w') := fun w h => pright a cap L w h (by omega)
  have hz0 := zeroBox w
  have hb0 := below_alloc w (.cells #[.int .i64 0, .int .i64 0, .int .i64 0, .int .i64 0, .int .i64 0, .bool false] 25)
  cases hq : rt 0 L with
  | false =>
    have HF : fnd L p = none := by unfold fnd; rw [hq]; rfl
    rw [HF]
    rw [hq] at HR1
    clear hq HF
    go_enter Try.func13, Try.ntmps13
    go_wp2_with fail
    refine (HR1.out _ (h.later hb0)).mono ?_
    rintro e w1 ⟨rfl, hb1⟩
    have hz1 := hz0.later hb1
    have hB1 := bel_trans hb0 hb1
    clear hz0 hb0 hb1
    obtain ⟨z0, z1, z2, z3, z4, z5⟩ := hz1.six
    have g0 := hz1.frozen 0
    have g1 := hz1.frozen 1
    have g2 := hz1.frozen 2
    have g3 := hz1.frozen 3
    have g4 := hz1.frozen 4
    have g5 := hz1.frozen 5
    simp only [zeroR] at z0 z1 z2 z3 z4 z5
    go_wp2
    obtain ⟨w5, hw5, hr5, hB5, -⟩ := setSix zeroR hz1 hB1 (Nat.le_refl _)
    simp only [zeroR] at hw5
    rw [← hw5]
    refine bodyPost_ret (res2 rfl _ _ _ _ rfl hr5) rfl ?_
    exact ⟨rfl, hB5⟩
  | true =>
    have HR : Hid (RL L) := (rt_iff L).1 hq
    have hfd := fnd_right HR.out p
    obtain ⟨A1, A2⟩ := fd_at HR.out p
    rw [← hfd] at A1 A2
    rw [hq] at HR1
    have HB : Hid (∀ w, Regs w a cap L → Calls Try.prog 26 #[.slice a L.length cap, .int .i64 p] w fun e w' => e = .returned (.int .i64 (bh L p)) ∧ Below w.heap.size w w') := fun w h => pbehind a cap L p w h hL HR.out
    have hble := bh_le L p
    obtain ⟨m, hm⟩ : ∃ m, m = bh L p := ⟨_, rfl⟩
    obtain ⟨O, hO⟩ : ∃ O, O = fnd L p := ⟨_, rfl⟩
    rw [← hO] at A1 A2 ⊢
    rw [← hm] at HB hble
    have A1' : Hid (∀ hb : m < L.length, L[m].f ≤ p → O = some L[m]) := by
      intro hb hf
      have := A1 (by omega) (by simpa [← hm] using hf)
      rw [this]
      simp [hm]
    have A2' : Hid ((∀ hb : m < L.length, p < L[m].f) → O = none) := by
      intro hf
      exact A2 (fun hb => by have := hf (by omega); simpa [← hm] using this)
    clear hq hfd A1 A2 hm hO
    by_cases hml : m = L.length
    · have HO : O = none := A2'.out (fun hb => by omega)
      subst HO
      have qm : ((m : Int) == (L.length : Int)) = true := by simp; omega
      clear hml
      go_enter Try.func13, Try.ntmps13
      go_wp2_with fail
      refine (HR1.out _ (h.later hb0)).mono ?_
      rintro e w1 ⟨rfl, hb1⟩
      have hz1 := hz0.later hb1
      have hB1 := bel_trans hb0 hb1
      clear hz0 hb0 hb1
      go_wp2_with fail
      refine (HB.out _ (h.later hB1)).mono ?_
      rintro e w2 ⟨rfl, hb2⟩
      have hz2 := hz1.later hb2
      have hB2 := bel_trans hB1 hb2
      clear hz1 hB1 hb2
      obtain ⟨z0, z1, z2, z3, z4, z5⟩ := hz2.six
      have g0 := hz2.frozen 0
      have g1 := hz2.frozen 1
      have g2 := hz2.frozen 2
      have g3 := hz2.frozen 3
      have g4 := hz2.frozen 4
      have g5 := hz2.frozen 5
      simp only [zeroR] at z0 z1 z2 z3 z4 z5
      go_wp2
      obtain ⟨w5, hw5, hr5, hB5, -⟩ := setSix zeroR hz2 hB2 (Nat.le_refl _)
      simp only [zeroR] at hw5
      rw [← hw5]
      refine bodyPost_ret (res2 rfl _ _ _ _ rfl hr5) rfl ?_
      exact ⟨rfl, hB5⟩
    · have hmlt : m < L.length := by omega
      have qm : ((m : Int) == (L.length : Int)) = false := by simp; omega
      have B1 := fun hf => A1'.out hmlt hf
      have B2 : p < L[m].f → O = none := fun hf => A2'.out (fun _ => hf)
      obtain ⟨b, off, rfl, -⟩ := h.get hmlt
      have HC : Hid (∀ w', Regs w' (some ⟨b, off, none⟩) cap L → w'.cell? ⟨b, off + m * 6, none⟩ = some (.int .i64 L[m].f) ∧ w'.cell? ⟨b, off + m * 6 + 1, none⟩ = some (.int .i64 L[m].t) ∧ w'.cell? ⟨b, off + m * 6 + 2, none⟩ = some (.int .i64 L[m].k) ∧ w'.cell? ⟨b, off + m * 6 + 3, none⟩ = some (.int .i64 L[m].fi) ∧ w'.cell? ⟨b, off + m * 6 + 4, none⟩ = some (.int .i64 L[m].ix) ∧ w'.cell? ⟨b, off + m * 6 + 5, none⟩ = some (.bool L[m].wr)) := by
        intro w' h'
        obtain ⟨b', off', e', hc⟩ := h'.get hmlt
        have e'' := Option.some.inj e'
        injection e'' with e1 e2
        subst e1
        subst e2
        exact hc
      obtain ⟨x, hx⟩ : ∃ x, x = L[m] := ⟨_, rfl⟩
      rw [← hx] at B1 B2 HC
      clear hx A1' A2' hml hble
      by_cases hf : x.f ≤ p
      · have HO : O = some x := B1 hf
        subst HO
        have qf : decide (p < x.f) = false := by simp; omega
        clear B1 B2 hf
        go_enter Try.func13, Try.ntmps13
        go_wp2_with fail
        refine (HR1.out _ (h.later hb0)).mono ?_
        rintro e w1 ⟨rfl, hb1⟩
        have hz1 := hz0.later hb1
        have hB1 := bel_trans hb0 hb1
        clear hz0 hb0 hb1
        go_wp2_with fail
        refine (HB.out _ (h.later hB1)).mono ?_
        rintro e w2 ⟨rfl, hb2⟩
        have hz2 := hz1.later hb2
        have hB2 := bel_trans hB1 hb2
        clear hz1 hB1 hb2
        obtain ⟨c0, c1, c2, c3, c4, c5⟩ := HC.out w2 (h.later hB2)
        obtain ⟨z0, z1, z2, z3, z4, z5⟩ := hz2.six
        have g0 := hz2.frozen 0
        have g1 := hz2.frozen 1
        have g2 := hz2.frozen 2
        have g3 := hz2.frozen 3
        have g4 := hz2.frozen 4
        have g5 := hz2.frozen 5
        simp only [zeroR] at z0 z1 z2 z3 z4 z5
        go_wp2
        obtain ⟨w5, hw5, hr5, hB5, -⟩ := setSix x hz2 hB2 (Nat.le_refl _)
        rw [← hw5]
        refine bodyPost_ret (res2 rfl _ _ _ _ rfl hr5) rfl ?_
        exact ⟨rfl, hB5⟩
      · have HO : O = none := B2 (by omega)
        subst HO
        have qf : decide (p < x.f) = true := by simp; omega
        clear B1 B2 hf
        go_enter Try.func13, Try.ntmps13
        go_wp2_with fail
        refine (HR1.out _ (h.later hb0)).mono ?_
        rintro e w1 ⟨rfl, hb1⟩
        have hz1 := hz0.later hb1
        have hB1 := bel_trans hb0 hb1
        clear hz0 hb0 hb1
        go_wp2_with fail
        refine (HB.out _ (h.later hB1)).mono ?_
        rintro e w2 ⟨rfl, hb2⟩
        have hz2 := hz1.later hb2
        have hB2 := bel_trans hB1 hb2
        clear hz1 hB1 hb2
        obtain ⟨c0, -⟩ := HC.out w2 (h.later hB2)
        obtain ⟨z0, z1, z2, z3, z4, z5⟩ := hz2.six
        have g0 := hz2.frozen 0
        have g1 := hz2.frozen 1
        have g2 := hz2.frozen 2
        have g3 := hz2.frozen 3
        have g4 := hz2.frozen 4
        have g5 := hz2.frozen 5
        simp only [zeroR] at z0 z1 z2 z3 z4 z5
        go_wp2
        obtain ⟨w5, hw5, hr5, hB5, -⟩ := setSix zeroR hz2 hB2 (Nat.le_refl _)
        simp only [zeroR] at hw5
        rw [← hw5]
        refine bodyPost_ret (res2 rfl _ _ _ _ rfl hr5) rfl ?_
        exact ⟨rfl, hB5⟩
end Go.Proofs.Ytagobeoabkbhaaa
