/-
  The law RadixSame walked.
-/
import Derived.Test.YtaecacbapeogdaaTwo
namespace Go.Proofs.Ytaecacbapeogdaa
open Go.RowKit

theorem same_out (a : Option Addr) (cap n : Nat) (w : World) (h : 80 < n) :
    Calls Try.prog 9 #[.slice a n cap] w fun e w' => e = .returned (.bool true) ∧ Below w.heap.size w w' := by
  go_enter Try.func9, Try.ntmps9
  go_wp2_with (go_at_call 10; refine (works_any _).mono ?_; rintro e w1 ⟨rfl, hb⟩)
  go_ret
  exact ⟨rfl, hb⟩

set_option maxRecDepth 100000 in
set_option maxHeartbeats 8000000 in
theorem same_in (a : Option Addr) (cap : Nat) (l : List Ac) (w : World) (hl : l.length ≤ 80) (hc : ActsAt w a l) :
    Calls Try.prog 9 #[.slice a l.length cap] w fun e w' => e = .returned (.bool true) ∧ Below w.heap.size w w' := by
  have d1 : decide ((80 : Int) < (l.length : Int)) = false := by simp; omega
  go_enter Try.func9, Try.ntmps9
  go_wp2_with fail
  refine (works_any _).mono ?_
  rintro e w1 ⟨rfl, hb1⟩
  go_wp2_with fail
  refine (newT hb1).mono ?_
  rintro e w2 ⟨t, rfl, h2, -⟩
  go_wp2_with fail
  refine (two_new h2).mono ?_
  rintro e w3 ⟨c, rfl, h3, -⟩
  clear hb1 d1 h2
  go_wp2
  go_loopw [6] (fun s6 wr => ∃ i : Nat, i ≤ l.length ∧ s6 = .int .i64 i ∧ Two w wr t noT 0 0 c noT 0 0 ∧ (∀ (i' k : Nat) (h1 : i' < i) (h2 : k < i') (h3 : i' < l.length), (l[k]'(by omega)).p ≠ l[i'].p)) (fun s6 _ => l.length - (intOf s6).toNat)
  case atStart => exact ⟨0, by omega, rfl, h3, fun i' k h1 => by omega⟩
  case round =>
    clear h3
    obtain ⟨i, hi, rfl, h3, hdis⟩ := hrel
    by_cases hlt : i < l.length
    · have HD : Hid (∀ (i' k : Nat) (h1 : i' < i) (h2 : k < i') (h3 : i' < l.length), (l[k]'(by omega)).p ≠ l[i'].p) := hdis
      clear hdis
      go_wp2
      go_loopw [7] (fun s7 wy => ∃ k : Nat, k ≤ i ∧ s7 = .int .i64 k ∧ Two w wy t noT 0 0 c noT 0 0 ∧ (∀ (k' : Nat) (h2 : k' < k) (h3 : k' < l.length), l[k'].p ≠ l[i].p)) (fun s7 _ => i - (intOf s7).toNat)
      case atStart => exact ⟨0, by omega, rfl, h3, fun k' h2 => by omega⟩
      case round =>
        clear h3
        obtain ⟨k, hk, rfl, h3, hdk⟩ := hrel
        have HK : Hid (∀ (k' : Nat) (h2 : k' < k) (h3 : k' < l.length), l[k'].p ≠ l[i].p) := hdk
        clear hdk
        by_cases hki : k < i
        · have hkl : k < l.length := by omega
          obtain ⟨b, off, e, e0, -, -⟩ := (hc.below h3.bel).at hkl
          obtain ⟨b', off', e', f0, -, -⟩ := (hc.below h3.bel).at hlt
          subst e
          injection e' with e'
          injection e' with e1 e2
          subst e1
          subst e2
          cases hq : (l[k].p == l[i].p) with
          | true =>
            go_wp2
            go_quiet (fail)
            go_wp2
            go_ret
            exact ⟨rfl, below_drawn h3.bel _⟩
          | false =>
            have HN : Hid (l[k].p ≠ l[i].p) := (show l[k].p ≠ l[i].p by simpa using hq)
            go_wp2
            go_quiet (fail)
            go_wp2
            refine ⟨⟨k + 1, by omega, by go_num, h3.drewN _, ?_⟩, by simp [intOf]; omega⟩
            intro k' h2 h4
            by_cases e : k' = k
            · subst e
              exact HN.out
            · exact HK.out k' (by omega) h4
        · have hki' : k = i := by omega
          subst hki'
          go_wp2
          refine ⟨⟨k + 1, by omega, by go_num, h3, ?_⟩, by simp [intOf]; omega⟩
          intro i' k' h1 h2 h4
          by_cases e : i' = k
          · subst e
            exact HK.out k' h2 (by omega)
          · exact HD.out i' k' (by omega) h2 h4
    · have HP : Hid (l.Pairwise (fun a b => a.p ≠ b.p)) := List.pairwise_iff_getElem.2 fun k i' hk hi' hki => hdis i' k (by omega) hki hi'
      clear hdis
      go_wp2
      go_loopw [8] (fun s8 wy => ∃ (j n m n2 m2 : Nat), j ≤ l.length ∧ s8 = .int .i64 j ∧ n ≤ j ∧ n2 ≤ j ∧ Two w wy t (setsW (l.take j)) n m c (setsW (l.reverse.take j)) n2 m2) (fun s8 _ => l.length - (intOf s8).toNat)
      case atStart => exact ⟨0, 0, 0, 0, 0, by omega, rfl, by omega, by omega, h3⟩
      case round =>
        clear h3
        obtain ⟨j, n, m, n2, m2, hj, rfl, hn, hn2, hT⟩ := hrel
        by_cases hjl : j < l.length
        · obtain ⟨K, hK⟩ : ∃ K, K = l.length - 1 - j := ⟨_, rfl⟩
          have hKl : K < l.length := by omega
          obtain ⟨b, off, e, e0, e1, -⟩ := hc.at hjl
          obtain ⟨b', off', e', f0, f1, -⟩ := hc.at hKl
          subst e
          injection e' with e'
          injection e' with e2 e3
          subst e2
          subst e3
          have HS1 : Hid (setsW (l.take (j + 1)) = setI (setsW (l.take j)) l[j].p l[j].x) := setsW_take l j hjl
          have HS2 : Hid (setsW (l.reverse.take (j + 1)) = setI (setsW (l.reverse.take j)) l[K].p l[K].x) := by
            have h1 := setsW_take l.reverse j (by simpa using hjl)
            have h2 : l.reverse[j]'(by simpa using hjl) = l[K] := by
              rw [List.getElem_reverse]
              congr 1
              omega
            rw [h2] at h1
            exact h1
          obtain ⟨F, hF⟩ : ∃ F, F = l[j].p := ⟨_, rfl⟩
          obtain ⟨X, hX⟩ : ∃ F, F = l[j].x := ⟨_, rfl⟩
          obtain ⟨G, hG⟩ : ∃ F, F = l[K].p := ⟨_, rfl⟩
          obtain ⟨Y, hY⟩ : ∃ F, F = l[K].x := ⟨_, rfl⟩
          rw [← hF] at e0
          rw [← hX] at e1
          rw [← hG] at f0
          rw [← hY] at f1
          rw [← hF, ← hX] at HS1
          rw [← hG, ← hY] at HS2
          have CC : Hid (∀ wx : World, Below w.heap.size w wx → (wx.cell? ⟨b, off + j * 3, none⟩ = some (.int .i64 F) ∧ wx.cell? ⟨b, off + j * 3 + 1, none⟩ = some (.int .u64 X)) ∧ (wx.cell? ⟨b, off + K * 3, none⟩ = some (.int .i64 G) ∧ wx.cell? ⟨b, off + K * 3 + 1, none⟩ = some (.int .u64 Y))) :=
            fun wx hb => ⟨⟨cell_later hb e0, cell_later hb e1⟩, cell_later hb f0, cell_later hb f1⟩
          clear hF hX hG hY e0 e1 f0 f1
          obtain ⟨W, hW⟩ : ∃ W, W = setsW (l.take j) := ⟨_, rfl⟩
          obtain ⟨V, hV⟩ : ∃ W, W = setsW (l.reverse.take j) := ⟨_, rfl⟩
          rw [← hW] at hT HS1
          rw [← hV] at hT HS2
          clear hW hV
          have H14 : Hid (Calls Try.prog 14 #[.pointer (some ⟨t, 0, none⟩), .int .i64 F, .int .u64 X] wr.drew fun e w' => ∃ n' m', e = .returned (.int .i64 (setE F)) ∧ Two w w' t (setI W F X) n' m' c V n2 m2 ∧ n' ≤ n + 1 ∧ Rk wr.drew w') := set1 F X (hT.drewN 1) (by omega)
          have KK : Hid (((l.length : Int) - 1 - (j : Int)) = (K : Int)) := (show ((l.length : Int) - 1 - (j : Int)) = (K : Int) by omega)
          clear hK
          go_upto_region 19 with fail
          go_cut [8] (fun s8 wx => s8 = .int .i64 j ∧ ∃ n' m', n' ≤ n + 1 ∧ Two w wx t (setI W F X) n' m' c V n2 m2)
          case first =>
            obtain ⟨⟨c0, c1⟩, -⟩ := CC.out _ hT.bel
            go_wp2
            go_region_with (go_at_call 14; refine H14.out.mono ?_; rintro e w4 ⟨n', m', rfl, h4, hn4, -⟩)
            all_goals
              go_wp2
              go_meet
              exact ⟨rfl, n', m', hn4, h4⟩
          case rest =>
            clear hT H14
            obtain ⟨rfl, n', m', hn', hT⟩ := hcut
            have H14 : Hid (Calls Try.prog 14 #[.pointer (some ⟨c, 0, none⟩), .int .i64 G, .int .u64 Y] wc.drew fun e w' => ∃ n3 m3, e = .returned (.int .i64 (setE G)) ∧ Two w w' t (setI W F X) n' m' c (setI V G Y) n3 m3 ∧ n3 ≤ n2 + 1 ∧ Rk wc.drew w') := set2 G Y (hT.drewN 1) (by omega)
            have kk : IntKind.i64.wrap (IntKind.i64.wrap ((l.length : Int) - 1) - (j : Int)) = (K : Int) := by
              have := KK.out
              rw [IntKind.wrap_i64, IntKind.wrap_i64]
              omega
            obtain ⟨-, c0, c1⟩ := CC.out _ hT.bel
            go_wp2
            go_region_with (go_at_call 14; refine H14.out.mono ?_; rintro e w4 ⟨n3, m3, rfl, h4, hn4, -⟩)
            all_goals
              go_wp2
              exact ⟨⟨j + 1, n', m', n3, m3, by omega, by go_num, by omega, by omega, by rw [HS1.out, HS2.out]; exact h4⟩, by simp [intOf]; omega⟩
        · have hjl' : j = l.length := by omega
          subst hjl'
          have hT' : Two w wr t (setsW l) n m c (setsW l) n2 m2 := by
            have := hT
            rw [List.take_length, List.take_of_length_le (by simp), sets_reverse HP.out] at this
            exact this
          obtain ⟨W, hW⟩ : ∃ W, W = setsW l := ⟨_, rfl⟩
          rw [← hW] at hT'
          obtain ⟨rfl, rfl⟩ := hT'.fst.cnt.unique hT'.snd.cnt
          clear hT hW HP hc
          have hT := hT'
          clear hT'
          go_wp2_with fail
          refine (walk1 0 65536 hT (by omega)).mono ?_
          rintro e w5 ⟨v1, r, rfl, hw1, hr1, -, h5, hl1⟩
          obtain ⟨a1, c1, hv⟩ := own_len hr1
          subst hv
          obtain ⟨B1, hB1⟩ : ∃ B1, B1 = wr.heap.size := ⟨_, rfl⟩
          rw [← hB1] at hr1
          clear hT hB1
          go_wp2_with fail
          refine (walk1 0 65536 h5.swap (by omega)).mono ?_
          rintro e w6 ⟨v2, r2, rfl, hw2, hr2, hb6, h6, -⟩
          have := hw2.unique hw1
          subst this
          have hr1' := own_below hr1 hb6
          have h6' := h6.swap
          have hrl : r2.length < 1000000 := by omega
          clear hr1 hb6 h5 hw1 hw2 h6
          go_wp2_with fail
          refine (prow B1 _ _ v2 r2 _ hrl hr1' hr2).mono ?_
          rintro e w7 ⟨rfl, d, rfl⟩
          have h7 := h6'.drewN d
          have hr7 := Rk.drewN _ d _ _ _ _ hr1'
          have mm : ((1 + (m : Int)) != (1 + (m : Int))) = false := by simp
          clear h6' hr1' hr2
          go_wp2_with fail
          refine (nodesT h7.fst (by omega)).mono ?_
          rintro e w8 ⟨rfl, rfl⟩
          go_wp2_with fail
          refine (nodesT h7.snd (by omega)).mono ?_
          rintro e w8 ⟨rfl, rfl⟩
          go_wp2
          go_loopw [10] (fun s10 wy => ∃ i : Nat, i ≤ r2.length ∧ s10 = .int .i64 i ∧ Two w wy t W n m c W n m ∧ wy.ownsRow B1 3 1 (.slice a1 r2.length c1) r2.length (r2.map iv)) (fun s10 _ => r2.length - (intOf s10).toNat)
          case atStart => exact ⟨0, by omega, rfl, h7, hr7⟩
          case round =>
            clear h7 hr7
            obtain ⟨i, hi, rfl, h7, hr7⟩ := hrel
            by_cases hir : i < r2.length
            · obtain ⟨g, cc, hv, hcell⟩ := own_cell hr7 hir
              injection hv with hv1 _ hv2
              subst hv1
              subst hv2
              obtain ⟨y, hy⟩ : ∃ y, y = r2[i] := ⟨_, rfl⟩
              rw [← hy] at hcell
              clear hy
              go_wp2_with fail
              refine (get1 y h7).mono ?_
              rintro e w9 ⟨rfl, h9, hb9⟩
              have hr9 := own_below hr7 hb9
              have hcell9 : w9.cell? ⟨g, i, none⟩ = some (.int .i64 y) := cell_later hb9 hcell
              clear h7 hr7 hcell hb9
              go_wp2_with fail
              refine (get2 y h9).mono ?_
              rintro e w10 ⟨rfl, h10, hb10⟩
              have hr10 := own_below hr9 hb10
              obtain ⟨Z, hZ⟩ : ∃ Z, Z = getX W y := ⟨_, rfl⟩
              rw [← hZ]
              have zz : (Z != Z) = false := by simp
              clear h9 hr9 hcell9 hb10 hZ
              go_wp2
              exact ⟨⟨i + 1, by omega, by go_num, h10, hr10⟩, by simp [intOf]; omega⟩
            · go_wp2
              go_ret
              exact ⟨rfl, h7.bel⟩

theorem same_walk (a : Option Addr) (cap : Nat) (l : List Ac) (w : World) (hc : ActsAt w a l) :
    Calls Try.prog 9 #[.slice a l.length cap] w fun e w' => e = .returned (.bool true) ∧ Below w.heap.size w w' := by
  by_cases h : 80 < l.length
  · exact same_out a cap _ w h
  · exact same_in a cap l w (by omega) hc
end Go.Proofs.Ytaecacbapeogdaa
