/-
  The contract of Clone.
-/
import Derived.Test.YtaecacbapeogdaaK2
import Derived.Deep.RegionHeld3
namespace Go.Proofs.Ytaecacbapeogdaa
open Go.RowKit

theorem fortyeight {α : Type} {l : List α} (h : l.length = 48) : ∃ x0 x1 x2 x3 x4 x5 x6 x7 x8 x9 x10 x11 x12 x13 x14 x15 x16 x17 x18 x19 x20 x21 x22 x23 x24 x25 x26 x27 x28 x29 x30 x31 x32 x33 x34 x35 x36 x37 x38 x39 x40 x41 x42 x43 x44 x45 x46 x47, l = [x0, x1, x2, x3, x4, x5, x6, x7, x8, x9, x10, x11, x12, x13, x14, x15, x16, x17, x18, x19, x20, x21, x22, x23, x24, x25, x26, x27, x28, x29, x30, x31, x32, x33, x34, x35, x36, x37, x38, x39, x40, x41, x42, x43, x44, x45, x46, x47] := by
  match l, h with
  | x0 :: x1 :: x2 :: x3 :: x4 :: x5 :: x6 :: x7 :: x8 :: x9 :: x10 :: x11 :: x12 :: x13 :: x14 :: x15 :: x16 :: x17 :: x18 :: x19 :: x20 :: x21 :: x22 :: x23 :: x24 :: x25 :: x26 :: x27 :: x28 :: x29 :: x30 :: x31 :: x32 :: x33 :: x34 :: x35 :: x36 :: x37 :: x38 :: x39 :: x40 :: x41 :: x42 :: x43 :: x44 :: x45 :: x46 :: x47 :: [], _ => exact ⟨_, _, _, _, _, _, _, _, _, _, _, _, _, _, _, _, _, _, _, _, _, _, _, _, _, _, _, _, _, _, _, _, _, _, _, _, _, _, _, _, _, _, _, _, _, _, _, _, rfl⟩
section
variable {w w2 : World} {t : Nat} {N M : Nds} {T : Tab} {n m : Nat}
theorem TabIs.under0 (h : TabIs w t N T n m) {j p : Nat} (hn : N j p ≠ none) : under 0 0 j p := by
  refine ⟨Nat.zero_le _, ?_⟩
  rcases (h.dom j p).1 hn with ⟨rfl, rfl⟩ | ⟨⟨h1, h2⟩, h3⟩
  · rfl
  · exact Nat.div_eq_of_lt (by rw [Nat.sub_zero]; exact ex_lt h.heap.fits (by omega) h3)
/-- The copy's nodes under a new table. -/
theorem TabIs.cloned (h : TabIs w t N T n m) {B : Nat} (hS : Sub w2 B M T (fun j p => under 0 0 j p ∧ N j p ≠ none)) (C : Array Value) (hC : C.toList = nodeCells M T 0 0 ++ [.int .i64 n, .int .i64 m]) (hB : B ≤ w2.heap.size) :
    TabIs (w2.alloc (.cells C 53)) w2.heap.size (addN M 0 0 w2.heap.size) T n m ∧ ∀ b, In (addN M 0 0 w2.heap.size) b → B ≤ b := by
  have hd : ∀ j p, M j p ≠ none ↔ N j p ≠ none := fun j p => by
    rw [hS.dom]
    exact ⟨fun hh => hh.2, fun hh => ⟨h.under0 hh, hh⟩⟩
  have hd2 : ∀ j p, addN M 0 0 w2.heap.size j p ≠ none ↔ N j p ≠ none := fun j p => by
    by_cases e : j = 0 ∧ p = 0
    · obtain ⟨rfl, rfl⟩ := e
      rw [addN_same, h.heap.t0]
      simp
    · rw [addN_other _ _ _ _ e]
      exact hd j p
  have hcells : ∀ j p, nodeCells (addN M 0 0 w2.heap.size) T j p = nodeCells M T j p := fun j p => nodeRow_congr fun i hi => ⟨addN_other _ _ _ _ (by omega), rfl⟩
  refine ⟨⟨⟨?_, ?_, ?_, ?_, ?_, ?_, h.heap.fits⟩, ?_, h.cnt⟩, ?_⟩
  · intro q
    by_cases e : q = 0
    · subst e
      rw [addN_same]; rfl
    · rw [addN_other _ _ _ _ (by omega), if_neg e]
      cases hc : M 0 q with
      | none => rfl
      | some b =>
        have := (hd 0 q).1 (by rw [hc]; simp)
        rw [h.heap.top, if_neg e] at this
        exact absurd rfl this
  · intro j p b hb
    rw [hcells]
    by_cases e : j = 0 ∧ p = 0
    · obtain ⟨rfl, rfl⟩ := e
      rw [addN_same] at hb
      injection hb with hb
      subst hb
      have := RowAt.new w2 C 53
      rw [hC] at this
      exact this
    · rw [addN_other _ _ _ _ e] at hb
      have hj : j ≠ 0 := by
        rintro rfl
        have h1 := (hd 0 p).1 (by rw [hb]; simp)
        rw [h.heap.top] at h1
        split at h1
        · rename_i hp
          exact e ⟨rfl, hp⟩
        · exact h1 rfl
      have := (hS.row j p b hb).alloc (.cells C 53)
      simpa [ty, tl, hj] using this
  · intro k1 q1 k2 q2 b e1 e2
    by_cases u1 : k1 = 0 ∧ q1 = 0
    · by_cases u2 : k2 = 0 ∧ q2 = 0
      · omega
      · rw [addN_other _ _ _ _ u2] at e2
        rw [u1.1, u1.2, addN_same] at e1
        injection e1 with e1
        have := hS.lt e2
        omega
    · rw [addN_other _ _ _ _ u1] at e1
      by_cases u2 : k2 = 0 ∧ q2 = 0
      · rw [u2.1, u2.2, addN_same] at e2
        injection e2 with e2
        have := hS.lt e1
        omega
      · rw [addN_other _ _ _ _ u2] at e2
        exact hS.inj _ _ _ _ b e1 e2
  · intro j p hj
    exact h.heap.lim _ _ ((hd2 j p).1 hj)
  · intro j p hj
    exact (hd2 _ _).2 (h.heap.up _ _ ((hd2 _ _).1 hj))
  · intro p hp
    exact (hd2 _ _).2 (h.heap.wup p hp)
  · intro j p
    rw [hd2]
    exact h.dom j p
  · rintro b ⟨j, p, hb⟩
    by_cases e : j = 0 ∧ p = 0
    · rw [e.1, e.2, addN_same] at hb
      injection hb with hb
      omega
    · rw [addN_other _ _ _ _ e] at hb
      exact hS.new j p b hb
end

theorem run_clone_build (w : World) (L : List Value) (hL : L.length = 48) (n m : Int) : (Instr.build 53 #[(0, .agg L.toArray), (1, .int .i64 n), (2, .int .i64 m)]).run Try.prog w = .ok (.agg (L ++ [Value.int .i64 n, Value.int .i64 m]).toArray) w := by
  refine run_build (P := Try.prog) w 53 _ _ ?_
  obtain ⟨x0, x1, x2, x3, x4, x5, x6, x7, x8, x9, x10, x11, x12, x13, x14, x15, x16, x17, x18, x19, x20, x21, x22, x23, x24, x25, x26, x27, x28, x29, x30, x31, x32, x33, x34, x35, x36, x37, x38, x39, x40, x41, x42, x43, x44, x45, x46, x47, rfl⟩ := fortyeight hL
  kernel_rfl
theorem run_clone_box (w : World) (C : Array Value) : (Instr.box 53 (.agg C)).run Try.prog w = .ok (.pointer (some ⟨w.heap.size, 0, none⟩)) (w.alloc (.cells C 53)) := by
  simp [Instr.box, newVar, newRow, Value.cells]
set_option maxRecDepth 100000 in
set_option maxHeartbeats 4000000 in
theorem pclone (t : Nat) (N : Nds) (T : Tab) (n m : Nat) (w : World) (h : TabIs w t N T n m) :
    Calls Try.prog 26 #[.pointer (some ⟨t, 0, none⟩)] w fun e w' => ∃ (c : Nat) (M : Nds), e = .returned (.pointer (some ⟨c, 0, none⟩)) ∧ TabIs w' c M T n m ∧ Below w.heap.size w w' ∧ ∀ b, In M b → w.heap.size ≤ b := by
  have H34 : Hid (∀ d, Calls Try.prog 34 #[.pointer (some ⟨t, 0, none⟩)] (w.drewN d) fun e w' => ∃ (c : Nat) (M : Nds), e = .returned (.pointer (some ⟨c, 0, none⟩)) ∧ M 0 0 = some c ∧ Sub w' (w.drewN d).heap.size M T (fun j p => under 0 0 j p ∧ N j p ≠ none) ∧ Below (w.drewN d).heap.size (w.drewN d) w') :=
    fun d => pcopied t N T n m 3 0 0 t (by omega) h.heap.t0 _ (h.heap.drewN d)
  have q1 := h.heap.words
  have q2 := h.heap.others
  have HT : Hid (TabIs w t N T n m) := h
  clear h
  go_enter Try.func26, Try.ntmps26
  go_wp2
  refine wp_region_held_drew (S := fun w' => w'.cell? ⟨t, 48, none⟩ = some (.int .i64 n) ∧ w'.cell? ⟨t, 49, none⟩ = some (.int .i64 m)) (by kernel_rfl) ⟨q1, q2⟩ (fun hHeld => ?_)
  refine wpAnyH_take (i := 0) (oi := ⟨some 3, _, _, _, _, _⟩) (v := .pointer (some ⟨t, 0, none⟩)) rfl (by kernel_rfl) (by kernel_rfl) (by kernel_rfl) (fun _ _ _ h => h) (Or.inl ⟨by rfl, fun w' hS' => ?_⟩) hHeld ?_
  · (obtain ⟨s1, s2⟩ := hS'; go_simp)
  simp only [Act.put, List.setIfInBounds_toArray, List.set_cons_zero, List.set_cons_succ]
  refine wpAnyH_take (i := 1) (oi := ⟨some 4, _, _, _, _, _⟩) (v := .pointer (some ⟨t, 0, none⟩)) rfl (by kernel_rfl) (by kernel_rfl) (by kernel_rfl) (fun _ _ _ h => h) (Or.inl ⟨by rfl, fun w' hS' => ?_⟩) hHeld ?_
  · (obtain ⟨s1, s2⟩ := hS'; go_simp)
  simp only [Act.put, List.setIfInBounds_toArray, List.set_cons_zero, List.set_cons_succ]
  refine wpAnyH_take (i := 2) (oi := ⟨some 5, _, _, _, _, _⟩) (v := .pointer (some ⟨t, 0, none⟩)) rfl (by kernel_rfl) (by kernel_rfl) (by kernel_rfl) (fun _ _ _ h => h) (Or.inl ⟨by rfl, fun w' hS' => ?_⟩) hHeld ?_
  · (obtain ⟨s1, s2⟩ := hS'; go_simp)
  simp only [Act.put, List.setIfInBounds_toArray, List.set_cons_zero, List.set_cons_succ]
  refine wpAnyH_take (i := 6) (oi := ⟨some 9, _, _, _, _, _⟩) (v := .pointer (some ⟨t, 0, none⟩)) rfl (by kernel_rfl) (by kernel_rfl) (by kernel_rfl) (fun _ _ _ h => h) (Or.inl ⟨by rfl, fun w' hS' => ?_⟩) hHeld ?_
  · (obtain ⟨s1, s2⟩ := hS'; go_simp)
  simp only [Act.put, List.setIfInBounds_toArray, List.set_cons_zero, List.set_cons_succ]
  refine wpAnyH_take (i := 7) (oi := ⟨some 10, _, _, _, _, _⟩) (v := .pointer (some ⟨t, 0, none⟩)) rfl (by kernel_rfl) (by kernel_rfl) (by kernel_rfl) (fun _ _ _ h => h) (Or.inl ⟨by rfl, fun w' hS' => ?_⟩) hHeld ?_
  · (obtain ⟨s1, s2⟩ := hS'; go_simp)
  simp only [Act.put, List.setIfInBounds_toArray, List.set_cons_zero, List.set_cons_succ]
  refine wpAnyH_take (i := 8) (oi := ⟨some 11, _, _, _, _, _⟩) (v := .pointer (some ⟨t, 48, none⟩)) rfl (by kernel_rfl) (by kernel_rfl) (by kernel_rfl) (fun _ _ _ h => h) (Or.inl ⟨by rfl, fun w' hS' => ?_⟩) hHeld ?_
  · (obtain ⟨s1, s2⟩ := hS'; go_simp)
  simp only [Act.put, List.setIfInBounds_toArray, List.set_cons_zero, List.set_cons_succ]
  refine wpAnyH_take (i := 9) (oi := ⟨some 12, _, _, _, _, _⟩) (v := .int .i64 n) rfl (by kernel_rfl) (by kernel_rfl) (by kernel_rfl) (fun _ _ _ h => h) (Or.inl ⟨by rfl, fun w' hS' => ?_⟩) hHeld ?_
  · (obtain ⟨s1, s2⟩ := hS'; go_simp)
  simp only [Act.put, List.setIfInBounds_toArray, List.set_cons_zero, List.set_cons_succ]
  refine wpAnyH_take (i := 10) (oi := ⟨some 13, _, _, _, _, _⟩) (v := .pointer (some ⟨t, 0, none⟩)) rfl (by kernel_rfl) (by kernel_rfl) (by kernel_rfl) (fun _ _ _ h => h) (Or.inl ⟨by rfl, fun w' hS' => ?_⟩) hHeld ?_
  · (obtain ⟨s1, s2⟩ := hS'; go_simp)
  simp only [Act.put, List.setIfInBounds_toArray, List.set_cons_zero, List.set_cons_succ]
  refine wpAnyH_take (i := 11) (oi := ⟨some 14, _, _, _, _, _⟩) (v := .pointer (some ⟨t, 0, none⟩)) rfl (by kernel_rfl) (by kernel_rfl) (by kernel_rfl) (fun _ _ _ h => h) (Or.inl ⟨by rfl, fun w' hS' => ?_⟩) hHeld ?_
  · (obtain ⟨s1, s2⟩ := hS'; go_simp)
  simp only [Act.put, List.setIfInBounds_toArray, List.set_cons_zero, List.set_cons_succ]
  refine wpAnyH_take (i := 12) (oi := ⟨some 15, _, _, _, _, _⟩) (v := .pointer (some ⟨t, 49, none⟩)) rfl (by kernel_rfl) (by kernel_rfl) (by kernel_rfl) (fun _ _ _ h => h) (Or.inl ⟨by rfl, fun w' hS' => ?_⟩) hHeld ?_
  · (obtain ⟨s1, s2⟩ := hS'; go_simp)
  simp only [Act.put, List.setIfInBounds_toArray, List.set_cons_zero, List.set_cons_succ]
  refine wpAnyH_take (i := 13) (oi := ⟨some 16, _, _, _, _, _⟩) (v := .int .i64 m) rfl (by kernel_rfl) (by kernel_rfl) (by kernel_rfl) (fun _ _ _ h => h) (Or.inl ⟨by rfl, fun w' hS' => ?_⟩) hHeld ?_
  · (obtain ⟨s1, s2⟩ := hS'; go_simp)
  simp only [Act.put, List.setIfInBounds_toArray, List.set_cons_zero, List.set_cons_succ]
  refine wpAnyH_ready (rs := [3]) (by kernel_rfl) (by simp) ?_
  refine AllReadyH.cons (o := ⟨some 6, _, _, _, _, _⟩) rfl (fun K hK => ?_) AllReadyH.nil
  go_simp
  refine (H34.out 1).mono ?_
  rintro e w2 ⟨c0, M0, rfl, hc0, hS, hb2⟩
  have r1 : w2.cell? ⟨t, 48, none⟩ = some (.int .i64 n) := cell_later hb2 q1
  have r2 : w2.cell? ⟨t, 49, none⟩ = some (.int .i64 m) := cell_later hb2 q2
  have hrow := hS.row 0 0 c0 hc0
  have hR : w2.rangeAt c0 0 (nodeCells M0 T 0 0) := by
    intro j v hv
    rw [Nat.zero_add, hrow.cell]
    exact hv
  have hLl : (nodeCells M0 T 0 0).length = 48 := nodeCells_len _ _ _ _
  have hbb : Below w.heap.size w (w2.alloc (.cells (nodeCells M0 T 0 0 ++ [Value.int .i64 n, Value.int .i64 m]).toArray 53)) := by
    refine Below.trans ⟨hb2.os, hb2.tape, hb2.output, hb2.size, hb2.block⟩ ((below_alloc _ _).mono hb2.size)
  have HCC : Hid (TabIs (w2.alloc (.cells (nodeCells M0 T 0 0 ++ [Value.int .i64 n, Value.int .i64 m]).toArray 53)) w2.heap.size (addN M0 0 0 w2.heap.size) T n m ∧ ∀ b, In (addN M0 0 0 w2.heap.size) b → (w.drewN 1).heap.size ≤ b) := HT.out.cloned hS _ rfl hb2.size
  obtain ⟨L, hL⟩ : ∃ L, L = nodeCells M0 T 0 0 := ⟨_, rfl⟩
  rw [← hL] at hR hLl hbb HCC
  have HBB : Hid (Below w.heap.size w (w2.alloc (.cells (L ++ [Value.int .i64 n, Value.int .i64 m]).toArray 53))) := hbb
  have hSZ : (Try.prog.info? 51).map (·.size) = some L.length := by rw [hLl]; exact size51
  clear hL hrow hS hb2 hbb H34 hHeld q1 q2
  dsimp only
  refine hK.out _ _ ⟨r1, r2⟩ (fun hHeld => ?_)
  clear hK K
  refine wpAnyH_take (i := 4) (oi := ⟨some 7, _, _, _, _, _⟩) (v := .pointer (some ⟨c0, 0, none⟩)) rfl (by kernel_rfl) (by kernel_rfl) (by kernel_rfl) (fun _ _ _ h => h) (Or.inl ⟨by rfl, fun w' hS' => ?_⟩) hHeld ?_
  · (obtain ⟨s1, s2⟩ := hS'; go_simp)
  simp only [Act.put, List.setIfInBounds_toArray, List.set_cons_zero, List.set_cons_succ]
  refine wpAnyH_ready (rs := [5]) (by kernel_rfl) (by simp) ?_
  refine AllReadyH.cons (o := ⟨some 8, _, _, _, _, _⟩) rfl (fun K hK => ?_) AllReadyH.nil
  rw [if_pos (by rfl)]
  refine wp_load_mid 51 (.tmp 7) rfl c0 0 rfl L _ hR Try.underlying51 rfl hSZ ?_
  simp only [Act.put, List.setIfInBounds_toArray, List.set_cons_zero, List.set_cons_succ]
  refine hK.out _ _ ⟨r1, r2⟩ (fun hHeld => ?_)
  clear hK K
  refine wpAnyH_take (i := 14) (oi := ⟨some 17, _, _, _, _, _⟩) (v := .agg (L ++ [Value.int .i64 n, Value.int .i64 m]).toArray) rfl (by kernel_rfl) (by kernel_rfl) (by kernel_rfl) (fun _ _ _ h => h) (Or.inl ⟨by rfl, fun w' hS' => ?_⟩) hHeld ?_
  · have := run_clone_build w' L hLl n m
    simp [execOp, Act.eval, this]
  simp only [Act.put, List.setIfInBounds_toArray, List.set_cons_zero, List.set_cons_succ]
  refine wpAnyH_ready (rs := [15]) (by kernel_rfl) (by simp) ?_
  refine AllReadyH.cons (o := ⟨some 18, _, _, _, _, _⟩) rfl (fun K hK => ?_) AllReadyH.nil
  rw [if_pos (by rfl)]
  have hbox := run_clone_box w2 (L ++ [Value.int .i64 n, Value.int .i64 m]).toArray
  unfold Oper.wp
  simp [execOp, Act.eval, hbox]
  refine hK.out _ _ ⟨cell_later (below_alloc _ _) r1, cell_later (below_alloc _ _) r2⟩ (fun hHeld => ?_)
  clear hK K
  simp only [Act.put, List.setIfInBounds_toArray, List.set_cons_zero, List.set_cons_succ]
  refine wpAnyH_take (i := 16) (oi := ⟨some 2, _, _, _, _, _⟩) (v := .pointer (some ⟨w2.heap.size, 0, none⟩)) rfl (by kernel_rfl) (by kernel_rfl) (by kernel_rfl) (fun _ _ _ h => h) (Or.inl ⟨by rfl, fun w' hS' => ?_⟩) hHeld ?_
  · (obtain ⟨s1, s2⟩ := hS'; go_simp)
  simp only [Act.put, List.setIfInBounds_toArray, List.set_cons_zero, List.set_cons_succ]
  refine wpAnyH_done (by kernel_rfl) ?_ _
  go_wp2
  go_ret
  exact ⟨_, _, rfl, HCC.out.1, HBB.out, HCC.out.2⟩
end Go.Proofs.Ytaecacbapeogdaa
