/-
  The law RadixClone walked.
-/
import Derived.Test.YtaecacbapeogdaaK3
namespace Go.Proofs.Ytaecacbapeogdaa
open Go.RowKit

theorem two_clone {w0 w : World} {t : Nat} {W : Tab} {n m : Nat} (h : Tb w0 w t W n m) : Calls Try.prog 26 #[.pointer (some ⟨t, 0, none⟩)] w fun e w' => ∃ c, e = .returned (.pointer (some ⟨c, 0, none⟩)) ∧ Two w0 w' t W n m c W n m := by
  obtain ⟨N, h1, h2, h3⟩ := h
  refine (pclone t N W n m w h1).mono fun e w' ⟨c, M, k1, k2, k3, k4⟩ => ⟨c, k1, N, M, h1.below k3, k2, h2.trans (k3.mono h2.size), h3, fun b hb => Nat.le_trans h2.size (k4 b hb), ?_⟩
  rintro b ⟨j, p, hb⟩ hM
  have := h1.heap.lt hb
  have := k4 b hM
  omega

set_option maxRecDepth 100000 in
theorem clone_out (a : Option Addr) (cap n : Nat) (a' : Option Addr) (cap' n' : Nat) (w : World) (h : 80 < n ∨ 80 < n') :
    Calls Try.prog 5 #[.slice a n cap, .slice a' n' cap'] w fun e w' => e = .returned (.bool true) ∧ Below w.heap.size w w' := by
  by_cases h1 : 80 < n
  · clear h
    go_enter Try.func5, Try.ntmps5
    go_wp2_with (go_at_call 10; refine (works_any _).mono ?_; rintro e w1 ⟨rfl, hb⟩)
    go_ret
    exact ⟨rfl, hb⟩
  · have h2 : 80 < n' := by omega
    clear h
    go_enter Try.func5, Try.ntmps5
    go_wp2_with (go_at_call 10; refine (works_any _).mono ?_; rintro e w1 ⟨rfl, hb⟩)
    go_ret
    exact ⟨rfl, hb⟩

set_option maxRecDepth 100000 in
set_option maxHeartbeats 8000000 in
theorem clone_in (a : Option Addr) (cap : Nat) (l : List Ac) (a' : Option Addr) (cap' : Nat) (r : List Ac) (w : World) (hl : l.length ≤ 80) (hr : r.length ≤ 80) (hc : ActsAt w a l) (hc' : ActsAt w a' r) :
    Calls Try.prog 5 #[.slice a l.length cap, .slice a' r.length cap'] w fun e w' => e = .returned (.bool true) ∧ Below w.heap.size w w' := by
  have d1 : decide ((80 : Int) < (l.length : Int)) = false := by simp; omega
  have d2 : decide ((80 : Int) < (r.length : Int)) = false := by simp; omega
  go_enter Try.func5, Try.ntmps5
  go_wp2_with fail
  refine (works_any _).mono ?_
  rintro e w1 ⟨rfl, hb1⟩
  go_wp2_with fail
  refine (newT hb1).mono ?_
  rintro e w2 ⟨t, rfl, h2, -⟩
  clear hb1 d1 d2
  go_wp2
  go_loopw [7] (fun s7 wx => ∃ (j n m : Nat), j ≤ l.length ∧ s7 = .int .i64 j ∧ n ≤ j ∧ Tb w wx t (setsW (l.take j)) n m) (fun s7 _ => l.length - (intOf s7).toNat)
  case atStart => exact ⟨0, 0, 0, by omega, rfl, by omega, h2⟩
  case round =>
    clear h2
    obtain ⟨j, n, m, hj, rfl, hn, hT⟩ := hrel
    by_cases hlt : j < l.length
    · obtain ⟨b, off, rfl, e0, e1, -⟩ := (hc.below hT.bel).at hlt
      have HS1 : Hid (setsW (l.take (j + 1)) = setI (setsW (l.take j)) l[j].p l[j].x) := setsW_take l j hlt
      obtain ⟨F, hF⟩ : ∃ F, F = l[j].p := ⟨_, rfl⟩
      obtain ⟨X, hX⟩ : ∃ F, F = l[j].x := ⟨_, rfl⟩
      rw [← hF] at e0
      rw [← hX] at e1
      rw [← hF, ← hX] at HS1
      obtain ⟨W, hW⟩ : ∃ W, W = setsW (l.take j) := ⟨_, rfl⟩
      rw [← hW] at hT HS1
      clear hF hX hW
      have H14 : Hid (Calls Try.prog 14 #[.pointer (some ⟨t, 0, none⟩), .int .i64 F, .int .u64 X] wr.drew fun e w' => ∃ n' m', e = .returned (.int .i64 (setE F)) ∧ Tb w w' t (setI W F X) n' m' ∧ n' ≤ n + 1 ∧ Rk wr.drew w') := setT F X (hT.drewN 1) (by omega)
      go_wp2
      go_region_with (go_at_call 14; refine H14.out.mono ?_; rintro e w3 ⟨n', m', rfl, hT', hn3, -⟩)
      all_goals
        go_wp2
        exact ⟨⟨j + 1, n', m', by omega, by go_num, by omega, by rw [HS1.out]; exact hT'⟩, by simp [intOf]; omega⟩
    · obtain rfl : j = l.length := by omega
      rw [List.take_length] at hT
      obtain ⟨W, hW⟩ : ∃ W, W = setsW l := ⟨_, rfl⟩
      rw [← hW] at hT
      have HW : Hid (W = setsW l) := hW
      clear hW
      have nn : ((n : Int) != (n : Int)) = false := by simp
      have mm : ((1 + (m : Int)) != (1 + (m : Int))) = false := by simp
      have hnb : n ≤ 80 := by omega
      go_wp2_with fail
      refine (two_clone hT).mono ?_
      rintro e w4 ⟨c, rfl, h4⟩
      clear hT
      go_wp2_with fail
      refine (lenT h4.snd).mono ?_
      rintro e w5 ⟨rfl, rfl⟩
      go_wp2_with fail
      refine (lenT h4.fst).mono ?_
      rintro e w5 ⟨rfl, rfl⟩
      go_wp2_with fail
      refine (nodesT h4.snd (by omega)).mono ?_
      rintro e w5 ⟨rfl, rfl⟩
      go_wp2_with fail
      refine (nodesT h4.fst (by omega)).mono ?_
      rintro e w5 ⟨rfl, rfl⟩
      go_wp2_with fail
      refine (walk1 0 65536 h4 (by omega)).mono ?_
      rintro e w6 ⟨v1, q, rfl, hw1, hr1, -, h6, hq⟩
      obtain ⟨a1, c1, hv⟩ := own_len hr1
      subst hv
      obtain ⟨B1, hB1⟩ : ∃ B1, B1 = w5.heap.size := ⟨_, rfl⟩
      rw [← hB1] at hr1
      clear h4 hB1 nn mm
      go_wp2
      go_loopw [10] (fun s10 wx => ∃ (i k k2 : Nat) (V : Tab), i ≤ r.length ∧ s10 = .int .i64 i ∧ k ≤ 80 + i ∧ Two w wx t W n m c V k k2 ∧ wx.ownsRow B1 3 1 (.slice a1 q.length c1) q.length (q.map iv)) (fun s10 _ => r.length - (intOf s10).toNat)
      case atStart => exact ⟨0, n, m, W, by omega, rfl, by omega, h6, hr1⟩
      case round =>
        clear h6 hr1
        obtain ⟨i, k, k2, V, hi, rfl, hk, hT, hr1⟩ := hrel
        by_cases hir : i < r.length
        · obtain ⟨b, off, rfl, e0, e1, e2⟩ := (hc'.below hT.bel).at hir
          obtain ⟨F, hF⟩ : ∃ F, F = r[i].p := ⟨_, rfl⟩
          obtain ⟨X, hX⟩ : ∃ F, F = r[i].x := ⟨_, rfl⟩
          obtain ⟨O, hO⟩ : ∃ F, F = r[i].off := ⟨_, rfl⟩
          rw [← hF] at e0
          rw [← hX] at e1
          rw [← hO] at e2
          clear hF hX hO
          cases O with
          | true =>
            go_wp2_with fail
            refine (drop2 F hT (by omega)).mono ?_
            rintro e w7 ⟨n', m', rfl, h7, hn7, hk7⟩
            have hr7 := hk7 _ _ _ _ hr1
            clear hT hr1 hk7
            go_wp2
            exact ⟨⟨i + 1, n', m', _, by omega, by go_num, by omega, h7, hr7⟩, by simp [intOf]; omega⟩
          | false =>
            have H14 : Hid (Calls Try.prog 14 #[.pointer (some ⟨c, 0, none⟩), .int .i64 F, .int .u64 (IntKind.u64.wrap (X + 1))] wr.drew fun e w' => ∃ n' m', e = .returned (.int .i64 (setE F)) ∧ Two w w' t W n m c (setI V F (IntKind.u64.wrap (X + 1))) n' m' ∧ n' ≤ k + 1 ∧ Rk wr.drew w') := set2 F _ (hT.drewN 1) (by omega)
            have HR : Hid (wr.drew.ownsRow B1 3 1 (.slice a1 q.length c1) q.length (q.map iv)) := Rk.drewN wr 1 _ _ _ _ hr1
            clear hr1
            go_wp2
            go_region_with (go_at_call 14; refine H14.out.mono ?_; rintro e w7 ⟨n', m', rfl, h7, hn7, hk7⟩)
            all_goals
              have hr7 := hk7 _ _ _ _ HR.out
              clear hT H14 HR hk7
              go_wp2
              exact ⟨⟨i + 1, n', m', _, by omega, by go_num, by omega, h7, hr7⟩, by simp [intOf]; omega⟩
        · have hT1 := hT.fst
          clear hT hc'
          go_wp2_with fail
          refine (walkT 0 65536 hT1 (by omega)).mono ?_
          rintro e w7 ⟨v2, q2, rfl, hw2, hr2, hb7, h7, hq2⟩
          have := hw2.unique hw1
          subst this
          have hr7 := own_below hr1 hb7
          have hrl : q2.length < 1000000 := by omega
          obtain ⟨a2, c2, hv⟩ := own_len hr2
          subst hv
          obtain ⟨B2, hB2⟩ : ∃ B2, B2 = wr.heap.size := ⟨_, rfl⟩
          rw [← hB2] at hr2
          clear hT1 hr1 hb7 hB2 hw2
          go_wp2_with fail
          refine (prow B1 B2 _ _ q2 _ hrl hr7 hr2).mono ?_
          rintro e w8 ⟨rfl, d, rfl⟩
          have h8 := h7.drewN d
          have hr8 := Rk.drewN _ d _ _ _ _ hr2
          have HM : Hid (∀ p, p ∈ q2 → W p ≠ none) := fun p hp => ((hw1.mem p).1 hp).1
          clear h7 hr7 hr2 hw1
          go_wp2_with fail
          refine (two_new h8).mono ?_
          rintro e w9 ⟨u, rfl, h9, hk9⟩
          have hr9 := hk9 _ _ _ _ hr8
          clear h8 hr8 hk9
          go_wp2
          go_loopw [13] (fun s13 wx => ∃ (i k k2 : Nat), i ≤ l.length ∧ s13 = .int .i64 i ∧ k ≤ i ∧ Two w wx t W n m u (setsW (l.take i)) k k2 ∧ wx.ownsRow B2 3 1 (.slice a2 q2.length c2) q2.length (q2.map iv)) (fun s13 _ => l.length - (intOf s13).toNat)
          case atStart => exact ⟨0, 0, 0, by omega, rfl, by omega, h9, hr9⟩
          case round =>
            clear h9 hr9
            obtain ⟨i', k', k3, hi', rfl, hk', hT, hr9⟩ := hrel
            by_cases hil : i' < l.length
            · obtain ⟨b, off, rfl, e0, e1, -⟩ := (hc.below hT.bel).at hil
              have HS1 : Hid (setsW (l.take (i' + 1)) = setI (setsW (l.take i')) l[i'].p l[i'].x) := setsW_take l i' hil
              obtain ⟨F, hF⟩ : ∃ F, F = l[i'].p := ⟨_, rfl⟩
              obtain ⟨X, hX⟩ : ∃ F, F = l[i'].x := ⟨_, rfl⟩
              rw [← hF] at e0
              rw [← hX] at e1
              rw [← hF, ← hX] at HS1
              obtain ⟨U, hU⟩ : ∃ W, W = setsW (l.take i') := ⟨_, rfl⟩
              rw [← hU] at hT HS1
              clear hF hX hU
              have H14 : Hid (Calls Try.prog 14 #[.pointer (some ⟨u, 0, none⟩), .int .i64 F, .int .u64 X] wr.drew fun e w' => ∃ n' m', e = .returned (.int .i64 (setE F)) ∧ Two w w' t W n m u (setI U F X) n' m' ∧ n' ≤ k' + 1 ∧ Rk wr.drew w') := set2 F X (hT.drewN 1) (by omega)
              have HR : Hid (wr.drew.ownsRow B2 3 1 (.slice a2 q2.length c2) q2.length (q2.map iv)) := Rk.drewN wr 1 _ _ _ _ hr9
              clear hr9
              go_wp2
              go_region_with (go_at_call 14; refine H14.out.mono ?_; rintro e w10 ⟨n', m', rfl, h10, hn10, hk10⟩)
              all_goals
                have hr10 := hk10 _ _ _ _ HR.out
                clear hT H14 HR hk10
                go_wp2
                exact ⟨⟨i' + 1, n', m', by omega, by go_num, by omega, by rw [HS1.out]; exact h10, hr10⟩, by simp [intOf]; omega⟩
            · obtain rfl : i' = l.length := by omega
              rw [List.take_length, ← HW.out] at hT
              clear hc HW
              go_wp2
              go_loopw [14] (fun s14 wx => ∃ i : Nat, i ≤ q2.length ∧ s14 = .int .i64 i ∧ Two w wx t W n m u W k' k3 ∧ wx.ownsRow B2 3 1 (.slice a2 q2.length c2) q2.length (q2.map iv)) (fun s14 _ => q2.length - (intOf s14).toNat)
              case atStart => exact ⟨0, by omega, rfl, hT, hr9⟩
              case round =>
                clear hT hr9
                obtain ⟨i2, hi2, rfl, hT, hr9⟩ := hrel
                by_cases hiq : i2 < q2.length
                · obtain ⟨g, cc, hv, hcell⟩ := own_cell hr9 hiq
                  injection hv with hv1 _ hv2
                  subst hv1
                  subst hv2
                  have hG : getB W (q2[i2] : Nat) = true := by
                    rw [getB_nat]
                    cases hq : W q2[i2] with
                    | none => exact absurd hq (HM.out _ (List.getElem_mem _))
                    | some z => rfl
                  obtain ⟨y, hy⟩ : ∃ y, y = q2[i2] := ⟨_, rfl⟩
                  rw [← hy] at hcell hG
                  have HG : Hid (getB W (y : Nat) = true) := hG
                  clear hy hG
                  go_wp2_with fail
                  refine (get1 y hT).mono ?_
                  rintro e w11 ⟨rfl, h11, hb11⟩
                  rw [HG.out]
                  have hr11 := own_below hr9 hb11
                  have hcell11 : w11.cell? ⟨g, i2, none⟩ = some (.int .i64 y) := cell_later hb11 hcell
                  clear hT hr9 hcell hb11
                  go_wp2_with fail
                  refine (get2 y h11).mono ?_
                  rintro e w12 ⟨rfl, h12, hb12⟩
                  rw [HG.out]
                  have hr12 := own_below hr11 hb12
                  obtain ⟨Z, hZ⟩ : ∃ Z, Z = getX W y := ⟨_, rfl⟩
                  rw [← hZ]
                  have zz : (Z != Z) = false := by simp
                  clear h11 hr11 hcell11 hb12 hZ
                  go_wp2
                  exact ⟨⟨i2 + 1, by omega, by go_num, h12, hr12⟩, by simp [intOf]; omega⟩
                · go_wp2
                  go_ret
                  exact ⟨rfl, hT.bel⟩

theorem clone_walk (a : Option Addr) (cap : Nat) (l : List Ac) (a' : Option Addr) (cap' : Nat) (r : List Ac) (w : World) (hc : ActsAt w a l) (hc' : ActsAt w a' r) :
    Calls Try.prog 5 #[.slice a l.length cap, .slice a' r.length cap'] w fun e w' => e = .returned (.bool true) ∧ Below w.heap.size w w' := by
  by_cases h : 80 < l.length ∨ 80 < r.length
  · exact clone_out a cap _ a' cap' _ w h
  · exact clone_in a cap l a' cap' r w (by omega) (by omega) hc hc'
end Go.Proofs.Ytaecacbapeogdaa
