/-
  The law RadixNodes walked.
-/
import Derived.Test.YtaecacbapeogdaaActs
namespace Go.Proofs.Ytaecacbapeogdaa
open Go.RowKit

theorem nodes_out (a : Option Addr) (cap n : Nat) (w : World) (h : 80 < n) :
    Calls Try.prog 8 #[.slice a n cap] w fun e w' => e = .returned (.bool true) ∧ Below w.heap.size w w' := by
  go_enter Try.func8, Try.ntmps8
  go_wp2_with (go_at_call 10; refine (works_any _).mono ?_; rintro e w1 ⟨rfl, hb⟩)
  go_ret
  exact ⟨rfl, hb⟩

theorem delI_ne {W : Tab} {i p : Nat} (h : i < 65536) : delI W i p ≠ none ↔ W p ≠ none ∧ p ≠ i := by
  unfold delI
  rw [isPg_nat h, if_pos rfl, Int.toNat_natCast]
  exact delW_ne

set_option maxRecDepth 100000 in
set_option maxHeartbeats 4000000 in
theorem nodes_in (a : Option Addr) (cap : Nat) (l : List Ac) (w : World) (hl : l.length ≤ 80) (hc : ActsAt w a l) :
    Calls Try.prog 8 #[.slice a l.length cap] w fun e w' => e = .returned (.bool true) ∧ Below w.heap.size w w' := by
  have d1 : decide ((80 : Int) < (l.length : Int)) = false := by simp; omega
  go_enter Try.func8, Try.ntmps8
  go_wp2_with fail
  refine (works_any _).mono ?_
  rintro e w1 ⟨rfl, hb1⟩
  go_wp2_with fail
  refine (newT hb1).mono ?_
  rintro e w2 ⟨t, rfl, h2, -⟩
  clear hb1 d1
  go_wp2
  go_loopw [5] (fun s5 wr => ∃ (j : Nat) (W : Tab) (n m : Nat), j ≤ l.length ∧ s5 = .int .i64 j ∧ n ≤ j ∧ Tb w wr t W n m) (fun s5 _ => l.length - (intOf s5).toNat)
  case atStart => exact ⟨0, noT, 0, 0, by omega, rfl, by omega, h2⟩
  case round =>
    clear h2
    obtain ⟨j, W, n, m, hj, rfl, hnj, hT⟩ := hrel
    by_cases hlt : j < l.length
    · obtain ⟨b, off, rfl, e0, e1, e2⟩ := (hc.below hT.bel).at hlt
      obtain ⟨F, hF⟩ : ∃ F, F = l[j].p := ⟨_, rfl⟩
      obtain ⟨X, hX⟩ : ∃ F, F = l[j].x := ⟨_, rfl⟩
      obtain ⟨O, hO⟩ : ∃ F, F = l[j].off := ⟨_, rfl⟩
      rw [← hF] at e0
      rw [← hX] at e1
      rw [← hO] at e2
      clear hF hX hO
      have H12 : Hid (Calls Try.prog 12 #[.pointer (some ⟨t, 0, none⟩), .int .i64 F] wr fun e w' => ∃ n' m', e = .returned (.bool (getB W F)) ∧ Tb w w' t (delI W F) n' m' ∧ n' ≤ n ∧ Rk wr w') := dropT F hT (by omega)
      have H14 : Hid (Calls Try.prog 14 #[.pointer (some ⟨t, 0, none⟩), .int .i64 F, .int .u64 X] wr.drew fun e w' => ∃ n' m', e = .returned (.int .i64 (setE F)) ∧ Tb w w' t (setI W F X) n' m' ∧ n' ≤ n + 1 ∧ Rk wr.drew w') := setT F X (hT.drewN 1) (by omega)
      cases O with
      | true =>
        clear H14
        go_wp2_with fail
        refine H12.out.mono ?_
        rintro e w3 ⟨n', m', rfl, hT', hn3, -⟩
        clear hT H12 e0 e1 e2
        have hT := hT'
        clear hT'
        have hle := hT.cnt.le3
        by_cases h0 : 0 < n'
        · have hge := hT.cnt.ge3 h0
          go_wp2_with fail
          refine (nodesT hT (by omega)).mono ?_
          rintro e w4 ⟨rfl, rfl⟩
          go_wp2_with fail
          refine (lenT hT).mono ?_
          rintro e w4 ⟨rfl, rfl⟩
          go_wp2
          exact ⟨⟨j + 1, _, n', m', by omega, by go_num, by omega, hT⟩, by simp [intOf]; omega⟩
        · obtain rfl : n' = 0 := by omega
          obtain rfl : m' = 0 := by omega
          go_wp2_with fail
          refine (nodesT hT (by omega)).mono ?_
          rintro e w4 ⟨rfl, rfl⟩
          go_wp2_with fail
          refine (lenT hT).mono ?_
          rintro e w4 ⟨rfl, rfl⟩
          go_wp2
          exact ⟨⟨j + 1, _, 0, 0, by omega, by go_num, by omega, hT⟩, by simp [intOf]; omega⟩
      | false =>
        clear H12
        go_wp2
        go_region_with (go_at_call 14; refine H14.out.mono ?_; rintro e w3 ⟨n', m', rfl, hT', hn3, -⟩)
        all_goals
          clear hT H14 e0 e1 e2
          have hT := hT'
          clear hT'
          have hle := hT.cnt.le3
          by_cases h0 : 0 < n'
          · have hge := hT.cnt.ge3 h0
            go_wp2_with fail
            refine (nodesT hT (by omega)).mono ?_
            rintro e w4 ⟨rfl, rfl⟩
            go_wp2_with fail
            refine (lenT hT).mono ?_
            rintro e w4 ⟨rfl, rfl⟩
            go_wp2
            exact ⟨⟨j + 1, _, n', m', by omega, by go_num, by omega, hT⟩, by simp [intOf]; omega⟩
          · obtain rfl : n' = 0 := by omega
            obtain rfl : m' = 0 := by omega
            go_wp2_with fail
            refine (nodesT hT (by omega)).mono ?_
            rintro e w4 ⟨rfl, rfl⟩
            go_wp2_with fail
            refine (lenT hT).mono ?_
            rintro e w4 ⟨rfl, rfl⟩
            go_wp2
            exact ⟨⟨j + 1, _, 0, 0, by omega, by go_num, by omega, hT⟩, by simp [intOf]; omega⟩
    · clear hc
      go_wp2_with fail
      refine (walkT 0 65536 hT (by omega)).mono ?_
      rintro e w4 ⟨v, r, rfl, hw, hr, -, h4, hrl⟩
      have HI : Hid (∀ p, W p ≠ none → p ∈ r) := fun p hp => by
        have := hT.fits p hp
        exact (hw.mem p).2 ⟨hp, by omega, by omega⟩
      have HB : Hid (∀ p, p ∈ r → p < 65536) := fun p hp => hT.fits p ((hw.mem p).1 hp).1
      obtain ⟨ra, rc, hv⟩ := own_len hr
      obtain ⟨B, hB⟩ : ∃ B, B = wr.heap.size := ⟨_, rfl⟩
      rw [← hB] at hr
      clear hT hw hB
      subst hv
      go_wp2
      go_loopw [9] (fun s9 wy => ∃ (i : Nat) (V : Tab) (n' m' : Nat), i ≤ r.length ∧ s9 = .int .i64 i ∧ n' ≤ n ∧ Tb w wy t V n' m' ∧ (∀ p, V p ≠ none → p ∈ r.drop i) ∧ wy.ownsRow B 3 1 (.slice ra r.length rc) r.length (r.map iv)) (fun s9 _ => r.length - (intOf s9).toNat)
      case atStart => exact ⟨0, W, n, m, by omega, rfl, by omega, h4, HI.out, hr⟩
      case round =>
        clear h4 hr HI
        obtain ⟨i, V, n', m', hi, rfl, hn', h5, hV, hr⟩ := hrel
        by_cases hir : i < r.length
        · obtain ⟨g, c, hv, hcell⟩ := own_cell hr hir
          injection hv with hv1 _ hv2
          subst hv1
          subst hv2
          obtain ⟨y, hy⟩ : ∃ y, y = r[i] := ⟨_, rfl⟩
          rw [← hy] at hcell
          have hyb : y < 65536 := HB.out y (by rw [hy]; exact List.getElem_mem _)
          have HV : Hid (∀ p, delI V y p ≠ none → p ∈ r.drop (i + 1)) := by
            intro p hp
            obtain ⟨h1, h2⟩ := (delI_ne hyb).1 hp
            have := hV p h1
            rw [List.drop_eq_getElem_cons hir, List.mem_cons] at this
            rcases this with h3 | h3
            · exact absurd (h3.trans hy.symm) h2
            · exact h3
          clear hy hV
          go_wp2_with fail
          refine (dropT y h5 (by omega)).mono ?_
          rintro e w5 ⟨n2, m2, rfl, h6, hn6, hk⟩
          have hr6 := hk _ _ _ _ hr
          clear h5 hr hk
          go_wp2
          exact ⟨⟨i + 1, delI V y, n2, m2, by omega, by go_num, by omega, h6, HV.out, hr6⟩, by simp [intOf]; omega⟩
        · have : r.drop i = [] := List.drop_eq_nil_of_le (by omega)
          rw [this] at hV
          obtain ⟨rfl, rfl⟩ := h5.cnt.zero (fun p => by
            cases hp : V p with
            | none => rfl
            | some x => exact absurd (hV p (by rw [hp]; simp)) (by simp))
          clear this hV hr
          go_wp2_with fail
          refine (nodesT h5 (by omega)).mono ?_
          rintro e w5 ⟨rfl, rfl⟩
          go_wp2_with fail
          refine (lenT h5).mono ?_
          rintro e w5 ⟨rfl, rfl⟩
          go_wp2
          go_ret
          exact ⟨rfl, h5.bel⟩

theorem nodes_walk (a : Option Addr) (cap : Nat) (l : List Ac) (w : World) (hc : ActsAt w a l) :
    Calls Try.prog 8 #[.slice a l.length cap] w fun e w' => e = .returned (.bool true) ∧ Below w.heap.size w w' := by
  by_cases h : 80 < l.length
  · exact nodes_out a cap _ w h
  · exact nodes_in a cap l w (by omega) hc
end Go.Proofs.Ytaecacbapeogdaa
