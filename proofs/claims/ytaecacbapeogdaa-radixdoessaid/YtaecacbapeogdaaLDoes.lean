/-
  The law RadixDoes walked.
-/
import Derived.Test.YtaecacbapeogdaaBoth
import Derived.Deep.RegionHeld
namespace Go.Proofs.Ytaecacbapeogdaa
open Go.RowKit

set_option maxRecDepth 100000 in
theorem does_out (a : Option Addr) (cap n : Nat) (x f b : Int) (w : World) (h : 80 < n) :
    Calls Try.prog 3 #[.slice a n cap, .int .i64 x, .int .i64 f, .int .i64 b] w fun e w' => e = .returned (.bool true) ∧ Below w.heap.size w w' := by
  go_enter Try.func3, Try.ntmps3
  go_wp2_with (go_at_call 10; refine (works_any _).mono ?_; rintro e w1 ⟨rfl, hb⟩)
  go_ret
  exact ⟨rfl, hb⟩

set_option maxRecDepth 100000 in
set_option maxHeartbeats 8000000 in
theorem does_in (a : Option Addr) (cap : Nat) (l : List Ac) (x f b : Int) (w : World) (hl : l.length ≤ 80) (hc : ActsAt w a l) :
    Calls Try.prog 3 #[.slice a l.length cap, .int .i64 x, .int .i64 f, .int .i64 b] w fun e w' => e = .returned (.bool true) ∧ Below w.heap.size w w' := by
  have d1 : decide ((80 : Int) < (l.length : Int)) = false := by simp; omega
  go_enter Try.func3, Try.ntmps3
  go_wp2_with fail
  refine (works_any _).mono ?_
  rintro e w1 ⟨rfl, hb1⟩
  go_wp2_with fail
  refine (newT hb1).mono ?_
  rintro e w2 ⟨t, rfl, h2, -⟩
  clear hb1 d1
  go_wp2
  have h3 := bo_new h2
  obtain ⟨r, hr⟩ : ∃ r, r = w2.heap.size := ⟨_, rfl⟩
  obtain ⟨w3, hw3⟩ : ∃ w3, w3 = w2.alloc (.cells #[.slice none 0 0] 29) := ⟨_, rfl⟩
  rw [← hr, ← hw3] at h3
  rw [← hr, ← hw3]
  clear hr hw3 h2
  go_loopw [12] (fun s12 wx => ∃ (j n m : Nat) (W : Tab) (D : Ws), j ≤ l.length ∧ s12 = .int .i64 j ∧ n ≤ j ∧ D.length ≤ j ∧ lookD D = W ∧ Bo w wx t W n m r D) (fun s12 _ => l.length - (intOf s12).toNat)
  case atStart => exact ⟨0, 0, 0, noT, [], by omega, rfl, by omega, by simp, lookD_nil, h3⟩
  case round =>
    clear h3
    obtain ⟨j, n, m, W, D, hj, rfl, hn, hD, hW, hB⟩ := hrel
    by_cases hlt : j < l.length
    · obtain ⟨ab, off, rfl, e0, e1, e2⟩ := hc.at hlt
      obtain ⟨F, hF⟩ : ∃ F, F = l[j].p := ⟨_, rfl⟩
      obtain ⟨X, hX⟩ : ∃ F, F = l[j].x := ⟨_, rfl⟩
      obtain ⟨O, hO⟩ : ∃ F, F = l[j].off := ⟨_, rfl⟩
      rw [← hF] at e0
      rw [← hX] at e1
      rw [← hO] at e2
      have CC : Hid (∀ wx : World, Below w.heap.size w wx → wx.cell? ⟨ab, off + j * 3, none⟩ = some (.int .i64 F) ∧ wx.cell? ⟨ab, off + j * 3 + 1, none⟩ = some (.int .u64 X) ∧ wx.cell? ⟨ab, off + j * 3 + 2, none⟩ = some (.bool O)) :=
        fun wx hb => ⟨cell_later hb e0, cell_later hb e1, cell_later hb e2⟩
      have HW : Hid (lookD D = W) := hW
      clear hF hX hO e0 e1 e2 hc hW
      obtain ⟨c0, c1, c2⟩ := CC.out _ hB.bel
      go_upto_if 41 with fail
      go_cut [12] (fun s12 wx => s12 = .int .i64 j ∧ ∃ (n' m' : Nat) (W' : Tab) (D' : Ws), n' ≤ j + 1 ∧ D'.length ≤ j + 1 ∧ lookD D' = W' ∧ Bo w wx t W' n' m' r D')
      case first =>
        cases O with
        | true =>
          obtain ⟨G, hG⟩ : ∃ G, G = getB W F := ⟨_, rfl⟩
          have J1 : Hid (getB W F = G) := hG.symm
          have gg : (G != G) = false := by simp
          clear hG
          go_wp2_with fail
          refine (bdrop F hB (by omega)).mono ?_
          rintro e w4 ⟨n', m', rfl, h4, hn4⟩
          rw [J1.out]
          clear c0 c1 c2 hB
          obtain ⟨c0, c1, c2⟩ := CC.out _ h4.bel
          go_wp2_with fail
          refine (brdrop F h4 (by omega)).mono ?_
          rintro e w5 ⟨D', rfl, h5, hk5, hl5⟩
          rw [HW.out, J1.out]
          rw [HW.out] at hk5
          go_wp2
          go_meet
          exact ⟨rfl, n', m', _, D', by omega, by omega, hk5, h5⟩
        | false =>
          obtain ⟨G, hG⟩ : ∃ G, G = setE F := ⟨_, rfl⟩
          have gg : (G != G) = false := by simp
          have H14 : Hid (Calls Try.prog 14 #[.pointer (some ⟨t, 0, none⟩), .int .i64 F, .int .u64 X] wr.drew fun e w' => ∃ n' m', e = .returned (.int .i64 G) ∧ Bo w w' t (setI W F X) n' m' r D ∧ n' ≤ n + 1) := by
            rw [hG]
            exact bset F X (hB.drewN 1) (by omega)
          have H15 : Hid (∀ wx n' m' W', Bo w wx t W' n' m' r D → Calls Try.prog 15 #[.pointer (some ⟨r, 0, none⟩), .int .i64 F, .int .u64 X] wx.drew fun e w' => ∃ D', e = .returned (.int .i64 G) ∧ Bo w w' t W' n' m' r D' ∧ lookD D' = setI W F X ∧ D'.length ≤ D.length + 1) := by
            intro wx n' m' W' hx
            have := brset F X (hx.drewN 1) (by omega)
            rw [HW.out, ← hG] at this
            exact this
          clear hG
          go_upto_region 16 with fail
          go_cut [15] (fun s15 wx => s15 = .int .i64 G ∧ ∃ n' m', n' ≤ n + 1 ∧ Bo w wx t (setI W F X) n' m' r D)
          case first =>
            go_wp2
            go_region_with (go_at_call 14; refine H14.out.mono ?_; rintro e w4 ⟨n', m', rfl, h4, hn4⟩)
            all_goals
              go_wp2
              go_meet
              exact ⟨rfl, n', m', hn4, h4⟩
          case rest =>
            clear hB H14 c0 c1 c2
            obtain ⟨rfl, n', m', hn', hB⟩ := hcut
            have H15' := H15.out _ _ _ _ hB
            have H15a : Hid (Calls Try.prog 15 #[.pointer (some ⟨r, 0, none⟩), .int .i64 F, .int .u64 X] wc.drew fun e w' => ∃ D', e = .returned (.int .i64 G) ∧ Bo w w' t (setI W F X) n' m' r D' ∧ lookD D' = setI W F X ∧ D'.length ≤ D.length + 1) := H15'
            clear H15 H15'
            obtain ⟨c0, c1, c2⟩ := CC.out _ hB.bel
            go_wp2
            go_region_with (go_at_call 15; refine H15a.out.mono ?_; rintro e w5 ⟨D', rfl, h5, hk5, hl5⟩)
            all_goals
              go_wp2
              go_meet
              exact ⟨rfl, n', m', _, D', by omega, by omega, hk5, h5⟩
      case rest =>
        clear hB c0 c1 c2 CC HW
        obtain ⟨rfl, n', m', W', D', hn', hD', hW', hB⟩ := hcut
        have hlen := hB.length hW'
        have HLEN : Hid (D'.length = n') := hlen
        have HW : Hid (lookD D' = W') := hW'
        clear hlen hW'
        obtain ⟨Y, hY⟩ : ∃ Y, Y = getX W' x := ⟨_, rfl⟩
        obtain ⟨Z, hZ⟩ : ∃ Y, Y = getB W' x := ⟨_, rfl⟩
        have J1 : Hid (getX W' x = Y) := hY.symm
        have J2 : Hid (getB W' x = Z) := hZ.symm
        have yy : (Y != Y) = false := by simp
        have zz : (Z != Z) = false := by simp
        have nn : ((n' : Int) != (n' : Int)) = false := by simp
        have mm : ((1 + (m' : Int)) != (1 + (m' : Int))) = false := by simp
        have hm3 := hB.tb.cnt.le3
        clear hY hZ
        go_wp2_with fail
        refine (bget x hB).mono ?_
        rintro e w6 ⟨rfl, h6⟩
        rw [J1.out, J2.out]
        clear hB
        go_wp2_with fail
        refine (brget x h6 (by omega)).mono ?_
        rintro e w7 ⟨rfl, rfl⟩
        rw [HW.out, J1.out, J2.out]
        obtain ⟨aL, cL, hcl⟩ := h6.cell
        rw [HLEN.out] at hcl
        go_upto_region 22 with fail
        go_cut [134] (fun s134 wx => s134 = .bool false ∧ Bo w wx t W' n' m' r D')
        case first =>
          have h7 := h6.drewN 1
          clear h6
          refine wp_region_held_drew (S := fun w' => w'.cell? ⟨r, 0, none⟩ = some (.slice aL n' cL)) (by kernel_rfl) hcl (fun hHeld => ?_)
          refine wpAnyH_take (i := 0) (oi := ⟨some 98, _, _, _, _, _⟩) (v := .int .u64 Y) rfl (by kernel_rfl) (by kernel_rfl) (by kernel_rfl) (fun _ _ _ h => h) (Or.inl ⟨by rfl, fun w' hS' => ?_⟩) hHeld ?_
          · go_simp
          simp only [Act.put, List.setIfInBounds_toArray, List.set_cons_zero, List.set_cons_succ]
          refine wpAnyH_take (i := 1) (oi := ⟨some 99, _, _, _, _, _⟩) (v := .int .u64 Y) rfl (by kernel_rfl) (by kernel_rfl) (by kernel_rfl) (fun _ _ _ h => h) (Or.inl ⟨by rfl, fun w' hS' => ?_⟩) hHeld ?_
          · go_simp
          simp only [Act.put, List.setIfInBounds_toArray, List.set_cons_zero, List.set_cons_succ]
          refine wpAnyH_take (i := 2) (oi := ⟨some 100, _, _, _, _, _⟩) (v := .bool false) rfl (by kernel_rfl) (by kernel_rfl) (by kernel_rfl) (fun _ _ _ h => h) (Or.inl ⟨by rfl, fun w' hS' => ?_⟩) hHeld ?_
          · go_simp
          simp only [Act.put, List.setIfInBounds_toArray, List.set_cons_zero, List.set_cons_succ]
          refine wpAnyH_take (i := 3) (oi := ⟨some 101, _, _, _, _, _⟩) (v := .bool false) rfl (by kernel_rfl) (by kernel_rfl) (by kernel_rfl) (fun _ _ _ h => h) (Or.inl ⟨by rfl, fun w' hS' => ?_⟩) hHeld ?_
          · go_simp
          simp only [Act.put, List.setIfInBounds_toArray, List.set_cons_zero, List.set_cons_succ]
          refine wpAnyH_take (i := 4) (oi := ⟨some 102, _, _, _, _, _⟩) (v := .bool Z) rfl (by kernel_rfl) (by kernel_rfl) (by kernel_rfl) (fun _ _ _ h => h) (Or.inl ⟨by rfl, fun w' hS' => ?_⟩) hHeld ?_
          · go_simp
          simp only [Act.put, List.setIfInBounds_toArray, List.set_cons_zero, List.set_cons_succ]
          refine wpAnyH_take (i := 5) (oi := ⟨some 103, _, _, _, _, _⟩) (v := .bool Z) rfl (by kernel_rfl) (by kernel_rfl) (by kernel_rfl) (fun _ _ _ h => h) (Or.inl ⟨by rfl, fun w' hS' => ?_⟩) hHeld ?_
          · go_simp
          simp only [Act.put, List.setIfInBounds_toArray, List.set_cons_zero, List.set_cons_succ]
          refine wpAnyH_take (i := 6) (oi := ⟨some 104, _, _, _, _, _⟩) (v := .bool false) rfl (by kernel_rfl) (by kernel_rfl) (by kernel_rfl) (fun _ _ _ h => h) (Or.inl ⟨by rfl, fun w' hS' => ?_⟩) hHeld ?_
          · go_simp
          simp only [Act.put, List.setIfInBounds_toArray, List.set_cons_zero, List.set_cons_succ]
          refine wpAnyH_take (i := 7) (oi := ⟨some 105, _, _, _, _, _⟩) (v := .bool false) rfl (by kernel_rfl) (by kernel_rfl) (by kernel_rfl) (fun _ _ _ h => h) (Or.inl ⟨by rfl, fun w' hS' => ?_⟩) hHeld ?_
          · go_simp
          simp only [Act.put, List.setIfInBounds_toArray, List.set_cons_zero, List.set_cons_succ]
          refine wpAnyH_take (i := 8) (oi := ⟨some 106, _, _, _, _, _⟩) (v := .bool false) rfl (by kernel_rfl) (by kernel_rfl) (by kernel_rfl) (fun _ _ _ h => h) (Or.inl ⟨by rfl, fun w' hS' => ?_⟩) hHeld ?_
          · go_simp
          simp only [Act.put, List.setIfInBounds_toArray, List.set_cons_zero, List.set_cons_succ]
          refine wpAnyH_take (i := 9) (oi := ⟨some 107, _, _, _, _, _⟩) (v := .pointer (some ⟨t, 0, none⟩)) rfl (by kernel_rfl) (by kernel_rfl) (by kernel_rfl) (fun _ _ _ h => h) (Or.inl ⟨by rfl, fun w' hS' => ?_⟩) hHeld ?_
          · go_simp
          simp only [Act.put, List.setIfInBounds_toArray, List.set_cons_zero, List.set_cons_succ]
          refine wpAnyH_take (i := 11) (oi := ⟨some 109, _, _, _, _, _⟩) (v := .pointer (some ⟨r, 0, none⟩)) rfl (by kernel_rfl) (by kernel_rfl) (by kernel_rfl) (fun _ _ _ h => h) (Or.inl ⟨by rfl, fun w' hS' => ?_⟩) hHeld ?_
          · go_simp
          simp only [Act.put, List.setIfInBounds_toArray, List.set_cons_zero, List.set_cons_succ]
          refine wpAnyH_take (i := 12) (oi := ⟨some 110, _, _, _, _, _⟩) (v := .pointer (some ⟨r, 0, none⟩)) rfl (by kernel_rfl) (by kernel_rfl) (by kernel_rfl) (fun _ _ _ h => h) (Or.inl ⟨by rfl, fun w' hS' => ?_⟩) hHeld ?_
          · go_simp
          simp only [Act.put, List.setIfInBounds_toArray, List.set_cons_zero, List.set_cons_succ]
          refine wpAnyH_take (i := 13) (oi := ⟨some 111, _, _, _, _, _⟩) (v := .pointer (some ⟨r, 0, none⟩)) rfl (by kernel_rfl) (by kernel_rfl) (by kernel_rfl) (fun _ _ _ h => h) (Or.inl ⟨by rfl, fun w' hS' => ?_⟩) hHeld ?_
          · go_simp
          simp only [Act.put, List.setIfInBounds_toArray, List.set_cons_zero, List.set_cons_succ]
          refine wpAnyH_take (i := 14) (oi := ⟨some 112, _, _, _, _, _⟩) (v := .slice aL n' cL) rfl (by kernel_rfl) (by kernel_rfl) (by kernel_rfl) (fun _ _ _ h => h) (Or.inl ⟨by rfl, fun w' hS' => ?_⟩) hHeld ?_
          · go_simp
          simp only [Act.put, List.setIfInBounds_toArray, List.set_cons_zero, List.set_cons_succ]
          refine wpAnyH_take (i := 15) (oi := ⟨some 113, _, _, _, _, _⟩) (v := .int .i64 n') rfl (by kernel_rfl) (by kernel_rfl) (by kernel_rfl) (fun _ _ _ h => h) (Or.inl ⟨by rfl, fun w' hS' => ?_⟩) hHeld ?_
          · go_simp
          simp only [Act.put, List.setIfInBounds_toArray, List.set_cons_zero, List.set_cons_succ]
          refine wpAnyH_ready (rs := [10]) (by kernel_rfl) (by simp) ?_
          refine AllReadyH.cons (o := ⟨some 108, _, _, _, _, _⟩) rfl (fun K hK => ?_) AllReadyH.nil
          go_simp
          refine (lenT h7.tb).mono ?_
          rintro e w8 ⟨rfl, rfl⟩
          dsimp only
          refine hK.out _ _ hHeld (fun hHeld => ?_)
          clear hK K
          refine wpAnyH_take (i := 16) (oi := ⟨some 114, _, _, _, _, _⟩) (v := .bool false) rfl (by kernel_rfl) (by kernel_rfl) (by kernel_rfl) (fun _ _ _ h => h) (Or.inl ⟨by rfl, fun w' hS' => ?_⟩) hHeld ?_
          · go_simp
          simp only [Act.put, List.setIfInBounds_toArray, List.set_cons_zero, List.set_cons_succ]
          refine wpAnyH_take (i := 17) (oi := ⟨some 115, _, _, _, _, _⟩) (v := .bool false) rfl (by kernel_rfl) (by kernel_rfl) (by kernel_rfl) (fun _ _ _ h => h) (Or.inl ⟨by rfl, fun w' hS' => ?_⟩) hHeld ?_
          · go_simp
          simp only [Act.put, List.setIfInBounds_toArray, List.set_cons_zero, List.set_cons_succ]
          refine wpAnyH_take (i := 18) (oi := ⟨some 116, _, _, _, _, _⟩) (v := .bool false) rfl (by kernel_rfl) (by kernel_rfl) (by kernel_rfl) (fun _ _ _ h => h) (Or.inl ⟨by rfl, fun w' hS' => ?_⟩) hHeld ?_
          · go_simp
          simp only [Act.put, List.setIfInBounds_toArray, List.set_cons_zero, List.set_cons_succ]
          refine wpAnyH_take (i := 19) (oi := ⟨some 117, _, _, _, _, _⟩) (v := .pointer (some ⟨t, 0, none⟩)) rfl (by kernel_rfl) (by kernel_rfl) (by kernel_rfl) (fun _ _ _ h => h) (Or.inl ⟨by rfl, fun w' hS' => ?_⟩) hHeld ?_
          · go_simp
          simp only [Act.put, List.setIfInBounds_toArray, List.set_cons_zero, List.set_cons_succ]
          refine wpAnyH_take (i := 21) (oi := ⟨some 119, _, _, _, _, _⟩) (v := .pointer (some ⟨r, 0, none⟩)) rfl (by kernel_rfl) (by kernel_rfl) (by kernel_rfl) (fun _ _ _ h => h) (Or.inl ⟨by rfl, fun w' hS' => ?_⟩) hHeld ?_
          · go_simp
          simp only [Act.put, List.setIfInBounds_toArray, List.set_cons_zero, List.set_cons_succ]
          refine wpAnyH_ready (rs := [20]) (by kernel_rfl) (by simp) ?_
          refine AllReadyH.cons (o := ⟨some 118, _, _, _, _, _⟩) rfl (fun K hK => ?_) AllReadyH.nil
          go_simp
          refine (nodesT h7.tb (by omega)).mono ?_
          rintro e w9 ⟨rfl, rfl⟩
          dsimp only
          refine hK.out _ _ hHeld (fun hHeld => ?_)
          clear hK K
          refine wpAnyH_ready (rs := [22]) (by kernel_rfl) (by simp) ?_
          refine AllReadyH.cons (o := ⟨some 120, _, _, _, _, _⟩) rfl (fun K hK => ?_) AllReadyH.nil
          go_simp
          refine (brnodesS h7 HW.out (by omega)).mono ?_
          rintro e w10 ⟨rfl, h10, hb10⟩
          dsimp only
          refine hK.out _ _ (cell_later hb10 hHeld) (fun hHeld => ?_)
          clear hK K
          refine wpAnyH_take (i := 23) (oi := ⟨some 121, _, _, _, _, _⟩) (v := .bool false) rfl (by kernel_rfl) (by kernel_rfl) (by kernel_rfl) (fun _ _ _ h => h) (Or.inl ⟨by rfl, fun w' hS' => ?_⟩) hHeld ?_
          · go_simp
          simp only [Act.put, List.setIfInBounds_toArray, List.set_cons_zero, List.set_cons_succ]
          refine wpAnyH_take (i := 24) (oi := ⟨some 122, _, _, _, _, _⟩) (v := .bool false) rfl (by kernel_rfl) (by kernel_rfl) (by kernel_rfl) (fun _ _ _ h => h) (Or.inl ⟨by rfl, fun w' hS' => ?_⟩) hHeld ?_
          · go_simp
          simp only [Act.put, List.setIfInBounds_toArray, List.set_cons_zero, List.set_cons_succ]
          refine wpAnyH_take (i := 25) (oi := ⟨some 123, _, _, _, _, _⟩) (v := .bool false) rfl (by kernel_rfl) (by kernel_rfl) (by kernel_rfl) (fun _ _ _ h => h) (Or.inl ⟨by rfl, fun w' hS' => ?_⟩) hHeld ?_
          · go_simp
          simp only [Act.put, List.setIfInBounds_toArray, List.set_cons_zero, List.set_cons_succ]
          refine wpAnyH_take (i := 26) (oi := ⟨some 124, _, _, _, _, _⟩) (v := .pointer (some ⟨t, 0, none⟩)) rfl (by kernel_rfl) (by kernel_rfl) (by kernel_rfl) (fun _ _ _ h => h) (Or.inl ⟨by rfl, fun w' hS' => ?_⟩) hHeld ?_
          · go_simp
          simp only [Act.put, List.setIfInBounds_toArray, List.set_cons_zero, List.set_cons_succ]
          refine wpAnyH_take (i := 27) (oi := ⟨some 125, _, _, _, _, _⟩) (v := .int .i64 f) rfl (by kernel_rfl) (by kernel_rfl) (by kernel_rfl) (fun _ _ _ h => h) (Or.inl ⟨by rfl, fun w' hS' => ?_⟩) hHeld ?_
          · go_simp
          simp only [Act.put, List.setIfInBounds_toArray, List.set_cons_zero, List.set_cons_succ]
          refine wpAnyH_take (i := 28) (oi := ⟨some 126, _, _, _, _, _⟩) (v := .int .i64 b) rfl (by kernel_rfl) (by kernel_rfl) (by kernel_rfl) (fun _ _ _ h => h) (Or.inl ⟨by rfl, fun w' hS' => ?_⟩) hHeld ?_
          · go_simp
          simp only [Act.put, List.setIfInBounds_toArray, List.set_cons_zero, List.set_cons_succ]
          refine wpAnyH_take (i := 30) (oi := ⟨some 128, _, _, _, _, _⟩) (v := .pointer (some ⟨r, 0, none⟩)) rfl (by kernel_rfl) (by kernel_rfl) (by kernel_rfl) (fun _ _ _ h => h) (Or.inl ⟨by rfl, fun w' hS' => ?_⟩) hHeld ?_
          · go_simp
          simp only [Act.put, List.setIfInBounds_toArray, List.set_cons_zero, List.set_cons_succ]
          refine wpAnyH_take (i := 31) (oi := ⟨some 129, _, _, _, _, _⟩) (v := .int .i64 f) rfl (by kernel_rfl) (by kernel_rfl) (by kernel_rfl) (fun _ _ _ h => h) (Or.inl ⟨by rfl, fun w' hS' => ?_⟩) hHeld ?_
          · go_simp
          simp only [Act.put, List.setIfInBounds_toArray, List.set_cons_zero, List.set_cons_succ]
          refine wpAnyH_take (i := 32) (oi := ⟨some 130, _, _, _, _, _⟩) (v := .int .i64 b) rfl (by kernel_rfl) (by kernel_rfl) (by kernel_rfl) (fun _ _ _ h => h) (Or.inl ⟨by rfl, fun w' hS' => ?_⟩) hHeld ?_
          · go_simp
          simp only [Act.put, List.setIfInBounds_toArray, List.set_cons_zero, List.set_cons_succ]
          refine wpAnyH_ready (rs := [29]) (by kernel_rfl) (by simp) ?_
          refine AllReadyH.cons (o := ⟨some 127, _, _, _, _, _⟩) rfl (fun K hK => ?_) AllReadyH.nil
          go_simp
          refine (bwalkS f b h10 (by omega)).mono ?_
          rintro e w11 ⟨v1, q, B1, rfl, hw1, hq1, hr1, h11, hb11⟩
          dsimp only
          refine hK.out _ _ (cell_later hb11 hHeld) (fun hHeld => ?_)
          clear hK K
          refine wpAnyH_ready (rs := [33]) (by kernel_rfl) (by simp) ?_
          refine AllReadyH.cons (o := ⟨some 131, _, _, _, _, _⟩) rfl (fun K hK => ?_) AllReadyH.nil
          go_simp
          refine (brwalkS f b h11 (by omega) HW.out hw1 hr1).mono ?_
          rintro e w12 ⟨v2, B2, rfl, hr12, hr2, h12, hb12⟩
          dsimp only
          refine hK.out _ _ (cell_later hb12 hHeld) (fun hHeld => ?_)
          clear hK K
          refine wpAnyH_ready (rs := [34]) (by kernel_rfl) (by simp) ?_
          refine AllReadyH.cons (o := ⟨some 132, _, _, _, _, _⟩) rfl (fun K hK => ?_) AllReadyH.nil
          go_simp
          refine (browS h12 (by omega) hr12 hr2).mono ?_
          rintro e w13 ⟨rfl, h13, hb13⟩
          dsimp only
          refine hK.out _ _ (cell_later hb13 hHeld) (fun hHeld => ?_)
          clear hK K
          refine wpAnyH_take (i := 35) (oi := ⟨some 133, _, _, _, _, _⟩) (v := .bool false) rfl (by kernel_rfl) (by kernel_rfl) (by kernel_rfl) (fun _ _ _ h => h) (Or.inl ⟨by rfl, fun w' hS' => ?_⟩) hHeld ?_
          · go_simp
          simp only [Act.put, List.setIfInBounds_toArray, List.set_cons_zero, List.set_cons_succ]
          refine wpAnyH_take (i := 36) (oi := ⟨some 134, _, _, _, _, _⟩) (v := .bool false) rfl (by kernel_rfl) (by kernel_rfl) (by kernel_rfl) (fun _ _ _ h => h) (Or.inl ⟨by rfl, fun w' hS' => ?_⟩) hHeld ?_
          · go_simp
          simp only [Act.put, List.setIfInBounds_toArray, List.set_cons_zero, List.set_cons_succ]
          refine wpAnyH_done (by kernel_rfl) ?_ _
          go_wp2
          go_meet
          exact ⟨rfl, h13⟩
        case rest =>
          clear h6 hcl
          obtain ⟨rfl, hB⟩ := hcut
          go_wp2
          exact ⟨⟨j + 1, n', m', W', D', by omega, by go_num, hn', hD', HW.out, hB⟩, by simp [intOf]; omega⟩
    · have HW : Hid (lookD D = W) := hW
      have HFIN : Hid (∀ wx, Bo w wx t W n m r D → Below w.heap.size w wx) := fun wx hx => hx.bel
      clear hc hW
      go_wp2_with fail
      refine (ppath x _).mono ?_
      rintro e w4 ⟨v1, rfl, hr1, hb1⟩
      have h4 := hB.grow hb1
      clear hB hb1
      go_wp2_with fail
      refine (rpath x _).mono ?_
      rintro e w5 ⟨v2, rfl, hr2, hb2⟩
      have h5 := h4.grow hb2
      have hr1' := own_below hr1 hb2
      have hpl : (pathL x).length < 1000000 := by
        unfold pathL
        split <;> simp
      clear h4 hb2 hr1
      go_wp2_with fail
      refine (brow h5 hpl hr1' hr2).mono ?_
      rintro e w6 ⟨rfl, h6⟩
      clear h5 hr1' hr2
      go_wp2_with fail
      refine (bwalk 0 65536 h6 (by omega)).mono ?_
      rintro e w7 ⟨v3, q, B1, rfl, hw1, hq1, hr3, h7⟩
      clear h6
      go_wp2_with fail
      refine (brwalk 0 65536 h7 (by omega) HW.out hw1 hr3).mono ?_
      rintro e w8 ⟨v4, B2, rfl, hr4, hr5, h8⟩
      clear h7 hr3
      go_wp2_with fail
      refine (brow h8 (by omega) hr4 hr5).mono ?_
      rintro e w9 ⟨rfl, h9⟩
      go_wp2
      go_ret
      exact ⟨rfl, h9.bel⟩

theorem does_walk (a : Option Addr) (cap : Nat) (l : List Ac) (x f b : Int) (w : World) (hc : ActsAt w a l) :
    Calls Try.prog 3 #[.slice a l.length cap, .int .i64 x, .int .i64 f, .int .i64 b] w fun e w' => e = .returned (.bool true) ∧ Below w.heap.size w w' := by
  by_cases h : 80 < l.length
  · exact does_out a cap _ x f b w h
  · exact does_in a cap l x f b w (by omega) hc
end Go.Proofs.Ytaecacbapeogdaa
