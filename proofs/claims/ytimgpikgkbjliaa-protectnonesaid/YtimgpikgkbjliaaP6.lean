/-
  The contract of claims.
-/
import Derived.Test.YtimgpikgkbjliaaP5
namespace Go.Proofs.Ytimgpikgkbjliaa
open Go.RowKit

set_option maxRecDepth 100000 in
set_option maxHeartbeats 4000000 in
theorem pclaims (a : Option Addr) (cap : Nat) (G : List Nd) (w : World) (h : Nds w a cap G) (hok : Ok G) :
    Calls Try.prog 23 #[.slice a G.length cap] w fun e w' => ∃ b, e = .returned (.slice (some ⟨b, 0, none⟩) G.length G.length) ∧ RowAt w' b 3 (ci (sums G G.length)) ∧ w.heap.size ≤ b ∧ Below w.heap.size w w' := by
  have hlen := hok.len
  go_enter Try.func23, Try.ntmps23
  go_wp2_with (at_make; refine wpList_make_row _ rfl (.tmp 7) (.tmp 7) 25 rfl 3 (.int .i64 0) 8 Try.underlying25 info3 rfl .i64 .i64 _ _ G.length rfl rfl rfl rfl (by omega) (by omega) ?_; intro w1 hr hz hb)
  rw [ci_zero, ← sums_zero] at hr
  go_loopw [11] (fun s11 wr => ∃ j : Nat, j ≤ G.length ∧ s11 = .int .i64 j ∧ RowAt wr w.heap.size 3 (ci (sums G j)) ∧ Below w.heap.size w wr) (fun s11 _ => G.length - (intOf s11).toNat)
  case atStart => exact ⟨0, by omega, rfl, hr, hb⟩
  case round =>
    clear hr hz hb
    obtain ⟨j, hj, rfl, hr, hb⟩ := hrel
    have hg := h.later hb
    clear h
    by_cases hjl : j < G.length
    · obtain ⟨b, off, rfl, c0, c1, c2⟩ := hg.get hjl
      obtain ⟨x, hx⟩ : ∃ x, x = G.getD j nz := ⟨_, rfl⟩
      have d0 : par G j = x.p := by rw [hx]; rfl
      have d1 : use G j = x.u := by rw [hx]; rfl
      have d2 : own G j = x.o := by rw [hx]; rfl
      have d3 : low G j = min x.o x.u := by unfold low; rw [d1, d2]
      have hlo := par_lo hok hjl
      have hlw := low_le hok j
      rw [d0] at c0
      rw [d1] at c1
      rw [d2] at c2
      obtain ⟨p, u, o⟩ := x
      simp only at d0 d1 d2 d3 c0 c1 c2
      obtain ⟨w2, hw2, hx2, hB2, hb2⟩ := boxOn 38 w wr ⟨p, u, o⟩ hb
      simp only at hw2
      have hr2 := hr.later hb2
      obtain ⟨k0, k1, k2⟩ := hx2.tri
      simp only at k0 k1 k2
      by_cases hm : p = -1
      · subst hm
        have HR : Hid (RowAt w2 w.heap.size 3 (ci (sums G (j + 1)))) := by
          show RowAt _ _ _ _
          rw [sums_root d0]
          exact hr2
        clear hr hg hr2 hx d0 d1 d2 d3
        go_wp2_with fail
        rw [← hw2]
        clear hw2
        go_wp2
        exact ⟨⟨j + 1, by omega, by go_num, HR.out, hB2⟩, by simp [intOf]; omega⟩
      · obtain ⟨q, rfl⟩ := Int.eq_ofNat_of_zero_le (show 0 ≤ p by omega)
        have hql : q < G.length := by omega
        have hd : ((q : Int) != -1) = true := by simp
        obtain ⟨S, hS⟩ : ∃ S, S = sib G q j := ⟨_, rfl⟩
        obtain ⟨M, hM⟩ : ∃ M, M = low G j := ⟨_, rfl⟩
        have hS0 := sib_nonneg hok q j
        have hS1 := sib_le hok q j
        rw [← hS] at hS0 hS1
        rw [← hM] at hlw d3
        have hSl := sums_len G j
        have HK : Hid (∀ W, RowAt W w.heap.size 3 (ci (sums G j)) → RowAt (W.setCell ⟨w.heap.size, q, none⟩ (.int .i64 (S + M))) w.heap.size 3 (ci (sums G (j + 1)))) := by
          intro W hW
          rw [sums_step d0, ← hS, ← hM, ← ci_set]
          exact hW.set q _
        have HQ : Hid (∀ W, RowAt W w.heap.size 3 (ci (sums G j)) → W.cell? ⟨w.heap.size, q, none⟩ = some (.int .i64 S)) := by
          intro W hW
          rw [hW.cell, ci_get _ _ (by rw [sums_len]; exact hql), sums_at _ _ _ hql, hS]
        have HC : Hid (∀ m, Calls Try.prog 25 #[.agg #[.int .i64 q, .int .i64 u, .int .i64 o]] (w2.drewN m) fun e w' => e = .returned (.int .i64 M) ∧ RowAt w' w.heap.size 3 (ci (sums G j)) ∧ RowAt w' wr.heap.size 38 (nc ⟨q, u, o⟩) ∧ Below w.heap.size w w') := by
          intro m
          refine (pclaim ⟨q, u, o⟩ (w2.drewN m)).mono ?_
          rintro e w' ⟨rfl, hb'⟩
          exact ⟨by rw [d3], (hr2.drewN m).later hb', (hx2.drewN m).later hb', bel_trans (below_drawn hB2 m) hb'⟩
        have e1 : IntKind.i64.wrap (S + M) = S + M := by rw [IntKind.wrap_i64]; omega
        have s0 := HQ.out w2 hr2
        have f0 := hr2.frozen q
        clear hr hg hx d0 d1 d2 d3 hm hS hM hSl
        go_wp2_with fail
        rw [← hw2]
        clear hw2
        go_region_with (go_at_call 25; refine (HC.out 1).mono ?_; rintro e w5 ⟨rfl, hr5, hx5, hB5⟩; have s5 := HQ.out _ hr5; have f5 := hr5.frozen q; obtain ⟨m0, m1, m2⟩ := hx5.tri)
        all_goals
          go_wp2
          exact ⟨⟨j + 1, by omega, by go_num, HK.out _ hr5, hB5.setCell (p := ⟨w.heap.size, q, none⟩) (Nat.le_refl _) _⟩, by simp [intOf]; omega⟩
    · have hlen : j = G.length := by omega
      subst hlen
      clear hg
      go_wp2
      go_ret
      exact ⟨_, rfl, hr, Nat.le_refl _, hb⟩
end Go.Proofs.Ytimgpikgkbjliaa
