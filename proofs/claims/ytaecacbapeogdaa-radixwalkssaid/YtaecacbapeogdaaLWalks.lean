/-
  The law RadixWalks walked.
-/
import Derived.Test.YtaecacbapeogdaaActs
import Derived.Laws.AppendOwnNone
namespace Go.Proofs.Ytaecacbapeogdaa
open Go.RowKit

/-- append(a, b...): both rows that calls made. -/
theorem wpList_append_row {w : World} {ops : Array Oper} {rest : List Oper} {o : Oper} {a : Act} {Q : Exit → Act → World → Prop} (hgd : o.guard = none) (s x : Operand)
    (ho : o.op = .call { callee := .builtin .append, args := #[s, x], argTypes := #[40, 40] }) (B B' : Nat) (va vb : Value) (la lb : List Nat)
    (hs : a.eval s = va) (hx : a.eval x = vb) (hA : w.ownsRow B 3 1 va la.length (la.map iv)) (hB : w.ownsRow B' 3 1 vb lb.length (lb.map iv)) (hl : la.length + lb.length < 1000000) (hbase : B ≤ w.heap.size)
    (hK : ∀ v' w', w'.ownsRow B 3 1 v' (la ++ lb).length ((la ++ lb).map iv) → w.grownBy w' va.ownBlock → wpList Try.prog ops Q rest (a.put o.dst v') w') : wpList Try.prog ops Q (o :: rest) a w := by
  obtain ⟨i0, hi, hz0, hz1, hz2⟩ := info_parts info3
  have hB2 := hB.2
  rcases hB2 with ⟨rfl, hn⟩ | ⟨g, cap, cur, rfl, _, hgb, hle, hm, hsz, htk⟩
  · have : lb = [] := List.eq_nil_of_length_eq_zero hn
    subst this
    refine wpList_append_own_none hgd s x 40 ho B 3 i0 1 Try.underlying40 hi va la.length _ hs hA hx (hK va w (by simpa using hA) ⟨rfl, rfl, rfl, Nat.le_refl _, fun _ _ _ => rfl⟩)
  · refine wpList_append_own _ hgd s x 40 ho B 3 i0 (.int .i64 0) 1 8 Try.underlying40 hi hz0 hz1 hz2 rfl (by decide) va la.length _ hs hA ⟨g, 0, none⟩ lb.length cap (lb.map iv) hx (by simp) ?_ ?_ (by unfold maxLen; omega) (by omega) hbase ?_
    · intro j u hu
      have hj : j < lb.length := by simpa using (List.getElem?_eq_some_iff.1 hu).1
      obtain ⟨g', c', e1, e2⟩ := own_cell hB hj
      have h3 := congrArg Value.ownBlock e1
      simp [Value.ownBlock] at h3
      subst h3
      rw [Addr.add_mid, Nat.zero_add, e2]
      rw [← hu]
      simp [iv, hj]
    · intro u hu
      obtain ⟨q, -, rfl⟩ := List.mem_map.1 hu
      rfl
    · intro v' w' h1 h2 _
      exact hK v' w' (by simpa using h1) h2
theorem Tb.grown {w0 w w' : World} {t : Nat} {W : Tab} {n m B : Nat} {v : Value} {k : Nat} {xs : List Value} (h : Tb w0 w t W n m) (hr : w.ownsRow B 3 1 v k xs) (hB : w0.heap.size ≤ B) (hg : w.grownBy w' v.ownBlock) : Tb w0 w' t W n m := by
  obtain ⟨N, h1, h2, h3⟩ := h
  refine ⟨N, ⟨h1.heap.kept fun j q b hb => hg.block b (h1.heap.lt hb) ?_, h1.dom, h1.cnt⟩, h2.grown hg h2.size fun j ej => Nat.le_trans hB (hr.lt j ej).1, h3⟩
  intro e
  rcases hr.2 with ⟨rfl, _⟩ | ⟨g, cap, cur, rfl, _, hgb, _⟩
  · simp [Value.ownBlock] at e
  · obtain rfl : b = g := by simpa [Value.ownBlock] using e
    have := h1.heap.row j q b hb
    unfold RowAt at this
    rw [this] at hgb
    injection hgb with hgb
    injection hgb with _ hgb
    unfold ty at hgb
    split at hgb <;> cases hgb
theorem own_grown {w w' : World} {B B' : Nat} {v u : Value} {k k' : Nat} {xs ys : List Value} (h : w.ownsRow B 3 1 v k xs) (hr : w.ownsRow B' 3 1 u k' ys) (hlt : ∀ j, v.ownBlock = some j → j < B') (hg : w.grownBy w' u.ownBlock) : w'.ownsRow B 3 1 v k xs := by
  refine h.kept hg ?_
  cases hv : v.ownBlock with
  | none => exact .inl rfl
  | some j =>
    refine .inr fun e => ?_
    have h1 := hlt j hv
    have h2 := (hr.lt j e.symm).1
    omega

set_option maxRecDepth 100000 in
theorem walks_out (a : Option Addr) (cap n : Nat) (f c b : Int) (w : World) (h : 80 < n ∨ c < f ∨ b < c) :
    Calls Try.prog 6 #[.slice a n cap, .int .i64 f, .int .i64 c, .int .i64 b] w fun e w' => e = .returned (.bool true) ∧ Below w.heap.size w w' := by
  by_cases h1 : 80 < n
  · clear h
    go_enter Try.func6, Try.ntmps6
    go_wp2_with (go_at_call 10; refine (works_any _).mono ?_; rintro e w1 ⟨rfl, hb⟩)
    go_ret
    exact ⟨rfl, hb⟩
  · by_cases h2 : c < f
    · clear h
      go_enter Try.func6, Try.ntmps6
      go_wp2_with (go_at_call 10; refine (works_any _).mono ?_; rintro e w1 ⟨rfl, hb⟩)
      go_ret
      exact ⟨rfl, hb⟩
    · have h3 : b < c := by omega
      clear h
      go_enter Try.func6, Try.ntmps6
      go_wp2_with (go_at_call 10; refine (works_any _).mono ?_; rintro e w1 ⟨rfl, hb⟩)
      go_ret
      exact ⟨rfl, hb⟩

set_option maxRecDepth 100000 in
set_option maxHeartbeats 4000000 in
theorem walks_in (a : Option Addr) (cap : Nat) (l : List Ac) (f c b : Int) (w : World) (hl : l.length ≤ 80) (hfc : f ≤ c) (hcb : c ≤ b) (hc : ActsAt w a l) :
    Calls Try.prog 6 #[.slice a l.length cap, .int .i64 f, .int .i64 c, .int .i64 b] w fun e w' => e = .returned (.bool true) ∧ Below w.heap.size w w' := by
  have d1 : decide ((80 : Int) < (l.length : Int)) = false := by simp; omega
  go_enter Try.func6, Try.ntmps6
  go_wp2_with fail
  refine (works_any _).mono ?_
  rintro e w1 ⟨rfl, hb1⟩
  go_wp2_with fail
  refine (newT hb1).mono ?_
  rintro e w2 ⟨t, rfl, h2, -⟩
  clear hb1 d1
  go_wp2
  go_loopw [11] (fun s11 wr => ∃ (j : Nat) (W : Tab) (n m : Nat), j ≤ l.length ∧ s11 = .int .i64 j ∧ n ≤ j ∧ Tb w wr t W n m) (fun s11 _ => l.length - (intOf s11).toNat)
  case atStart => exact ⟨0, noT, 0, 0, by omega, rfl, by omega, h2⟩
  case round =>
    clear h2
    obtain ⟨j, W, n, m, hj, rfl, hnj, hT⟩ := hrel
    by_cases hlt : j < l.length
    · obtain ⟨ab, off, rfl, e0, e1, -⟩ := (hc.below hT.bel).at hlt
      obtain ⟨F, hF⟩ : ∃ F, F = l[j].p := ⟨_, rfl⟩
      obtain ⟨X, hX⟩ : ∃ F, F = l[j].x := ⟨_, rfl⟩
      rw [← hF] at e0
      rw [← hX] at e1
      clear hF hX
      have H14 : Hid (Calls Try.prog 14 #[.pointer (some ⟨t, 0, none⟩), .int .i64 F, .int .u64 X] wr.drew fun e w' => ∃ n' m', e = .returned (.int .i64 (setE F)) ∧ Tb w w' t (setI W F X) n' m' ∧ n' ≤ n + 1 ∧ Rk wr.drew w') := setT F X (hT.drewN 1) (by omega)
      go_wp2
      go_region_with (go_at_call 14; refine H14.out.mono ?_; rintro e w3 ⟨n', m', rfl, hT', hn3, -⟩)
      all_goals
        go_wp2
        exact ⟨⟨j + 1, _, n', m', by omega, by go_num, by omega, hT'⟩, by simp [intOf]; omega⟩
    · clear hc
      have hnb : n ≤ 80 := by omega
      go_wp2_with fail
      refine (walkT f b hT (by omega)).mono ?_
      rintro e w3 ⟨v1, r, rfl, hw1, hr1, -, h3, hl1⟩
      clear hT
      go_wp2_with fail
      refine (walkT f c h3 (by omega)).mono ?_
      rintro e w4 ⟨v2, ra, rfl, hw2, hr2, hb4, h4, hl2⟩
      have hr1' := own_below hr1 hb4
      have hv1 : Hid (∀ j, v1.ownBlock = some j → j < w3.heap.size) := fun j hj => (hr1.lt j hj).2
      have hs3 := h3.bel.size
      have hb4s := hb4.size
      clear h3 hr1 hb4
      go_wp2_with fail
      refine (walkT c b h4 (by omega)).mono ?_
      rintro e w5 ⟨v3, rb, rfl, hw3, hr3, hb5, h5, hl3⟩
      have hr2' := own_below hr2 hb5
      have hr1 := own_below hr1' hb5
      have hs4 := hb4s
      have HJ : Hid (ra ++ rb = r) := (hw2.join hw3 hfc hcb).unique hw1
      have HM : Hid (∀ p, p ∈ r → W p ≠ none ∧ f ≤ (p : Int) ∧ (p : Int) < b) := fun p hp => (hw1.mem p).1 hp
      have HU : Hid (r.Pairwise (· < ·)) := hw1.up
      clear hr1' hr2 hw1 hw2 hw3 h4
      obtain ⟨a1, c1, hv⟩ := own_len hr1
      subst hv
      have hls : w3.heap.size ≤ w5.heap.size := Nat.le_trans hs4 hb5.size
      obtain ⟨B1, hB1⟩ : ∃ B1, B1 = wr.heap.size := ⟨_, rfl⟩
      obtain ⟨B3, hB3⟩ : ∃ B3, B3 = w3.heap.size := ⟨_, rfl⟩
      obtain ⟨B4, hB4⟩ : ∃ B4, B4 = w4.heap.size := ⟨_, rfl⟩
      rw [← hB1] at hr1
      rw [← hB3] at hr2' hs3 hv1 hls
      rw [← hB4] at hr3
      clear hb5 hs4 hB1 hB3 hB4 hb4s
      go_wp2_with (at_builtin; refine wpList_append_row rfl (.tmp 66) (.tmp 67) rfl B3 B4 v2 v3 ra rb rfl rfl hr2' hr3 (by omega) hls ?_; intro v4 w6 hown hg)
      have h6 : Tb w w6 t W n m := h5.grown hr2' hs3 hg
      have hr6 := own_grown hr1 hr2' hv1.out hg
      rw [HJ.out] at hown
      have hrl : r.length < 1000000 := by omega
      clear h5 hr1 hr2' hr3 hg hv1
      go_loopw [15] (fun s15 wy => ∃ i : Nat, i ≤ r.length ∧ s15 = .int .i64 i ∧ Tb w wy t W n m ∧ wy.ownsRow B1 3 1 (.slice a1 r.length c1) r.length (r.map iv) ∧ wy.ownsRow B3 3 1 v4 r.length (r.map iv)) (fun s15 _ => r.length - (intOf s15).toNat)
      case atStart => exact ⟨0, by omega, rfl, h6, hr6, hown⟩
      case round =>
        clear h6 hr6 hown
        obtain ⟨i, hi, rfl, h6, hr6, hown⟩ := hrel
        by_cases hir : i < r.length
        · obtain ⟨g, cc, hv, hcell⟩ := own_cell hr6 hir
          injection hv with hv1 _ hv2
          subst hv1
          subst hv2
          obtain ⟨q1, q2, q3⟩ := HM.out r[i] (List.getElem_mem _)
          have hG : getB W (r[i] : Nat) = true := by
            rw [getB_nat]
            cases hq : W r[i] with
            | none => exact absurd hq q1
            | some z => rfl
          obtain ⟨y, hy⟩ : ∃ y, y = r[i] := ⟨_, rfl⟩
          rw [← hy] at hcell q2 q3 hG
          have HG : Hid (getB W (y : Nat) = true) := hG
          have t1 : decide ((y : Int) < f) = false := by simp; omega
          have t2 : decide (b ≤ (y : Int)) = false := by simp; omega
          clear hG q1 q2 q3
          cases i with
          | zero =>
            clear hy
            go_wp2_with fail
            refine (getO y h6).mono ?_
            rintro e w7 ⟨rfl, h7, hb7⟩
            rw [HG.out]
            have hr7 := own_below hr6 hb7
            have hown7 := own_below hown hb7
            have hcell7 : w7.cell? ⟨g, 0, none⟩ = some (.int .i64 y) := cell_later hb7 hcell
            clear h6 hr6 hown hcell hb7
            go_wp2
            go_quiet (fail)
            go_wp2
            exact ⟨⟨1, by omega, by go_num, h7.drewN _, Rk.drewN _ _ _ _ _ _ hr7, Rk.drewN _ _ _ _ _ _ hown7⟩, by simp [intOf]; omega⟩
          | succ i =>
            have hi' : i < r.length := by omega
            obtain ⟨g', cc', hv, hcellz⟩ := own_cell hr6 hi'
            have h3 := congrArg Value.ownBlock hv
            simp [Value.ownBlock] at h3
            subst h3
            have hzy : r[i] < r[i + 1] := List.pairwise_iff_getElem.1 HU.out i (i + 1) hi' hir (by omega)
            obtain ⟨z, hz⟩ : ∃ z, z = r[i] := ⟨_, rfl⟩
            rw [← hz] at hcellz hzy
            rw [← hy] at hzy
            have t3 : decide ((y : Int) ≤ (z : Int)) = false := by simp; omega
            have t4 : decide ((0 : Int) < ((i + 1 : Nat) : Int)) = true := decide_eq_true (by omega)
            have t5 : decide (y ≤ z) = false := decide_eq_false (by omega)
            clear hy hz hv hzy
            go_wp2_with fail
            refine (getO y h6).mono ?_
            rintro e w7 ⟨rfl, h7, hb7⟩
            rw [HG.out]
            have hr7 := own_below hr6 hb7
            have hown7 := own_below hown hb7
            have hcell7 : w7.cell? ⟨g, i + 1, none⟩ = some (.int .i64 y) := cell_later hb7 hcell
            have hcellz7 : w7.cell? ⟨g, i, none⟩ = some (.int .i64 z) := cell_later hb7 hcellz
            clear h6 hr6 hown hcell hcellz hb7
            go_wp2
            go_quiet (fail)
            go_wp2
            exact ⟨⟨i + 2, by omega, by go_num, h7.drewN _, Rk.drewN _ _ _ _ _ _ hr7, Rk.drewN _ _ _ _ _ _ hown7⟩, by simp [intOf]; omega⟩
        · go_wp2_with fail
          refine (prow B1 B3 _ v4 r _ hrl hr6 hown).mono ?_
          rintro e w8 ⟨rfl, d, rfl⟩
          go_wp2
          go_ret
          exact ⟨rfl, below_drawn h6.bel d⟩

theorem walks_walk (a : Option Addr) (cap : Nat) (l : List Ac) (f c b : Int) (w : World) (hc : ActsAt w a l) :
    Calls Try.prog 6 #[.slice a l.length cap, .int .i64 f, .int .i64 c, .int .i64 b] w fun e w' => e = .returned (.bool true) ∧ Below w.heap.size w w' := by
  by_cases h : 80 < l.length ∨ c < f ∨ b < c
  · exact walks_out a cap _ f c b w h
  · exact walks_in a cap l f c b w (by omega) (by omega) (by omega) hc
end Go.Proofs.Ytaecacbapeogdaa
