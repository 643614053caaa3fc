/-
  The law GensOld walked.
-/
import Derived.Test.YtfmgmelgfnppkaaRow
namespace Go.Proofs.Ytfmgmelgfnppkaa
open Go.RowKit

/-- What the first j adds leave. -/
def adN (I : List Int) (O : List Bool) : Nat → List En
  | 0 => []
  | j + 1 => addL (adN I O j) (I.getD j 0) 1 (O.getD j false)
theorem adN_len (I : List Int) (O : List Bool) (j : Nat) : (adN I O j).length ≤ j := by
  induction j with
  | zero => exact Nat.le_refl _
  | succ j ih =>
    have := addL_len (adN I O j) (I.getD j 0) 1 (O.getD j false)
    simp only [adN]
    omega
theorem adN_ok (I : List Int) (O : List Bool) (j : Nat) : Ok (adN I O j) := by
  induction j with
  | zero => exact Ok.nil
  | succ j ih => exact addL_ok ih _ _ _
theorem add_mem {L : List En} {i g : Int} {o : Bool} (x : En) (h : x ∈ addL L i g o) : x ∈ L ∨ x = ⟨i, g, if o then 1 else 0⟩ := by
  unfold addL at h
  split at h
  · rename_i he
    rcases (ins_mem (x := ⟨i, g, if o then 1 else 0⟩) (addE_zero.1 he).2 x).1 h with h | h
    · exact Or.inr h
    · exact Or.inl h
  · exact Or.inl h
theorem adN_g (I : List Int) (O : List Bool) (j : Nat) : ∀ x ∈ adN I O j, x.g = 1 := by
  induction j with
  | zero => intro x hx; simp [adN] at hx
  | succ j ih =>
    intro x hx
    rcases add_mem x hx with h | rfl
    · exact ih x h
    · rfl
theorem adN_cnt (I : List Int) (O : List Bool) (j : Nat) : cntL (adN I O j) 1 = (adN I O j).length := by
  unfold cntL
  rw [List.countP_eq_length]
  intro x hx
  simp [adN_g I O j x hx]
theorem add_bad {L : List En} {i : Int} (o : Bool) (h : okI i = false) : addE L i 1 = 1 ∧ addL L i 1 o = L := by
  have : addE L i 1 = 1 := by simp [addE, h]
  exact ⟨this, by simp [addL, this]⟩
theorem ok1 : okI 1 = true := rfl
theorem add_busy {L : List En} {i : Int} (o : Bool) (h : okI i = true) (ht : (lk L i).isSome = true) : addE L i 1 = 4 ∧ addL L i 1 o = L := by
  have : addE L i 1 = 4 := by simp [addE, h, ht, ok1]
  exact ⟨this, by simp [addL, this]⟩
theorem add_new {L : List En} {i : Int} (h : okI i = true) (ht : (lk L i).isSome = false) : addE L i 1 = 0 := addE_zero.2 ⟨by rw [h]; rfl, by simpa using ht⟩
theorem adN_thr (I : List Int) (O : List Bool) (j : Nat) (hj : j ≤ I.length) (z : Int) : (lk (adN I O j) z).isSome = (okI z && (I.take j).any fun y => y == z) := by
  induction j with
  | zero => simp [adN, lk_nil]
  | succ j ih =>
    have ih := ih (by omega)
    have e : I.take (j + 1) = I.take j ++ [I.getD j 0] := by
      have hj' : j < I.length := by omega
      simp [hj']
    rw [e, List.any_append]
    simp only [adN, List.any_cons, List.any_nil, Bool.or_false]
    by_cases hz : I.getD j 0 = z
    · rw [hz]
      simp only [beq_self_eq_true, Bool.or_true, Bool.and_true]
      cases hk : okI z with
      | false =>
        rw [(add_bad _ hk).2, ih, hk]; rfl
      | true =>
        cases ht : (lk (adN I O j) z).isSome with
        | true => rw [(add_busy _ hk ht).2, ht]
        | false =>
          rw [addL_lk (adN_ok I O j) _ (add_new hk ht), if_pos rfl]; rfl
    · have h1 : (I.getD j 0 == z) = false := by simpa using hz
      rw [h1, Bool.or_false, ← ih]
      unfold addL
      split
      · rename_i he
        rw [ins_lk (adN_ok I O j).srt (x := ⟨I.getD j 0, 1, _⟩) (addE_zero.1 he).2, if_neg (fun e => hz e.symm)]
      · rfl
theorem old_add {L : List En} (h : Ok L) {i : Int} {o : Bool} (he : addE L i 1 = 0) : oldN (addL L i 1 o) i = if o then 1 else 0 := by
  rw [oldN_some (x := ⟨i, 1, if o then 1 else 0⟩) (by rw [addL_lk h o he, if_pos rfl])]
theorem add_len_new {L : List En} {i : Int} (o : Bool) (he : addE L i 1 = 0) : (addL L i 1 o).length = L.length + 1 := by
  unfold addL
  rw [if_pos he, ins_len (x := ⟨i, 1, _⟩) (addE_zero.1 he).2]
/-- One after another in the order. -/
theorem iL_next {L : List En} (h : Ok L) (G : List Int) {k : Nat} (hk : k + 1 < (iL L G).length) : ∃ x y : En, x ∈ L ∧ y ∈ L ∧ (iL L G)[k]'(by omega) = x.i ∧ (iL L G)[k + 1] = y.i ∧ ahead x y := by
  have hl : k + 1 < (ordL L G).length := by simpa [iL] using hk
  refine ⟨(ordL L G)[k], (ordL L G)[k + 1], ((ordL_mem h).1 (List.getElem_mem _)).1, ((ordL_mem h).1 (List.getElem_mem _)).1, by simp [iL], by simp [iL], ?_⟩
  exact ord_next h G (List.getElem?_eq_getElem _) (List.getElem?_eq_getElem _)
theorem old_mem {L : List En} (h : Ok L) {x : En} (hx : x ∈ L) : oldN L x.i = x.a := oldN_some (lk_self h.srt hx)
theorem iL_wf {L : List En} (h : Ok L) (G : List Int) : ∀ z ∈ iL L G, ∃ x, x ∈ L ∧ inG G x = true ∧ x.i = z := by
  intro z hz
  obtain ⟨x, hx, rfl⟩ := List.mem_map.1 hz
  exact ⟨x, ((ordL_mem h).1 hx).1, ((ordL_mem h).1 hx).2, rfl⟩

theorem old_out (a : Option Addr) (cap n : Nat) (b : Option Addr) (cb k : Nat) (w : World) (h : decide ((40 : Int) < (n : Int)) = true ∨ (decide ((40 : Int) < (n : Int)) = false ∧ decide ((k : Int) < (n : Int)) = true)) :
    Calls Try.prog 7 #[.slice a n cap, .slice b k cb] w fun e w' => e = .returned (.bool true) ∧ Below w.heap.size w w' := by
  rcases h with q1 | ⟨q1, q2⟩
  rotate_left
  have q3 : decide (k < n) = true := by simp at q2; simpa using q2
  all_goals
    go_enter Try.func7, Try.ntmps7
    go_wp2_with (go_at_call 9; refine (works_any _).mono ?_; rintro e w1 ⟨rfl, hb⟩)
    go_ret
    exact ⟨rfl, hb⟩

set_option maxRecDepth 100000 in
set_option maxHeartbeats 8000000 in
theorem old_in (ai : Option Addr) (ci : Nat) (I : List Int) (ao : Option Addr) (co : Nat) (O : List Bool) (w : World) (hl : I.length ≤ 40) (hol : I.length ≤ O.length) (hI : Ints w ai I) (hO : Bools w ao O) :
    Calls Try.prog 7 #[.slice ai I.length ci, .slice ao O.length co] w fun e w' => e = .returned (.bool true) ∧ Below w.heap.size w w' := by
  have d1 : decide ((40 : Int) < (I.length : Int)) = false := by simp; omega
  have d2 : decide ((O.length : Int) < (I.length : Int)) = false := by simp; omega
  have d3 : decide (O.length < I.length) = false := by simp; omega
  have HI : Hid (Ints w ai I) := hI
  have HO : Hid (Bools w ao O) := hO
  clear hI hO
  go_enter Try.func7, Try.ntmps7
  go_wp2_with fail
  refine (works_any _).mono ?_
  rintro e w1 ⟨rfl, hb1⟩
  go_wp2_with fail
  refine (newO hb1).mono ?_
  rintro e w2 ⟨x, m, rfl, h2, -⟩
  clear hb1 d1 d2 d3
  go_wp2_with fail
  go_loopw [7, 8] (fun s7 s8 wr => ∃ j : Nat, j ≤ I.length ∧ s8 = .int .i64 j ∧ s7 = .int .i64 (adN I O j).length ∧ Ow w wr x m (adN I O j)) (fun _ s8 _ => I.length - (intOf s8).toNat)
  case atStart => exact ⟨0, by omega, rfl, rfl, h2⟩
  case round =>
    clear h2
    obtain ⟨j, hj, rfl, rfl, hT⟩ := hrel
    have hal := adN_len I O j
    by_cases hlt : j < I.length
    · obtain ⟨b, off, rfl, k0, hwf⟩ := (HI.out.later hT.bel).get hlt
      obtain ⟨bo, oo, rfl, k1⟩ := (HO.out.later hT.bel).at' j (by omega)
      have d0 : decide ((j : Int) < (I.length : Int)) = true := by simp; omega
      obtain ⟨z, hz⟩ : ∃ z, z = I[j] := ⟨_, rfl⟩
      obtain ⟨ob, hob⟩ : ∃ ob, ob = O[j]'(by omega) := ⟨_, rfl⟩
      rw [← hz] at k0 hwf
      rw [← hob] at k1
      have HAD : Hid (adN I O (j + 1) = addL (adN I O j) z 1 ob) := by
        show _ = _
        have hj2 : j < O.length := by omega
        simp [adN, hz, hob, hlt, hj2]
      have HTH := hid (adN_thr I O j hj z)
      have HOK : Hid (Ok (adN I O j)) := hT.ls.ok
      obtain ⟨L, hL⟩ : ∃ L, L = adN I O j := ⟨_, rfl⟩
      rw [← hL] at HAD HTH HOK hT hal
      rw [← hL]
      have HT := hid hT
      have HZC : Hid (∀ W, Below w.heap.size w W → W.cell? ⟨b, off + j, none⟩ = some (.int .i64 z) ∧ W.cell? ⟨bo, oo + j, none⟩ = some (.bool ob)) := fun W hW => by
        obtain ⟨b', off', e', c0, -⟩ := (HI.out.later hW).get hlt
        injection e' with e'
        injection e' with e1 e2
        subst e1
        subst e2
        obtain ⟨b', off', e', c1⟩ := (HO.out.later hW).at' j (by omega)
        injection e' with e'
        injection e' with e1 e2
        subst e1
        subst e2
        rw [← hz] at c0
        rw [← hob] at c1
        exact ⟨c0, c1⟩
      clear hz hob hL hT
      go_wp2_with fail
      obtain ⟨wo, rfl⟩ : ∃ wo, wo = wr := ⟨_, rfl⟩
      go_loopw [9, 10] (fun s9 s10 wx => ∃ (k : Nat) (p : Bool), k ≤ j ∧ s10 = .int .i64 k ∧ s9 = .bool p ∧ p = ((I.take k).any fun y => y == z) ∧ ∃ n, wx = wo.drewN n) (fun _ s10 _ => j - (intOf s10).toNat)
      case atStart => exact ⟨0, false, by omega, rfl, rfl, rfl, 0, rfl⟩
      case round =>
        obtain ⟨k, p, hk, rfl, rfl, hp, n, rfl⟩ := hrel
        have HPP : Hid (p = (I.take k).any fun y => y == z) := hp
        clear hp
        by_cases hkj : k < j
        · have hqq : decide ((k : Int) < (j : Int)) = true := by simp; omega
          have hkl : k < I.length := by omega
          obtain ⟨b2, o2, e2, hgc, -⟩ := (HI.out.later HT.out.bel).get hkl
          injection e2 with e2
          injection e2 with e3 e4
          subst e3
          subst e4
          obtain ⟨y, hy⟩ : ∃ y, y = I[k] := ⟨_, rfl⟩
          rw [← hy] at hgc
          have HZ : Hid (((I.take (k + 1)).any fun y => y == z) = (p || y == z)) := by show _ = _; rw [any_next I z hkl, hy, HPP.out]
          clear hy
          cases p with
          | true =>
            go_wp2_with fail
            go_quiet (fail)
            go_wp2
            exact ⟨⟨k + 1, true, by omega, by go_num, rfl, HZ.out.symm, _, rfl⟩, by simp [intOf]; omega⟩
          | false =>
            cases hyz : (y == z)
            all_goals
              rw [hyz] at HZ
              go_wp2_with fail
              go_quiet (fail)
              go_wp2
              exact ⟨⟨k + 1, _, by omega, by go_num, rfl, HZ.out.symm, _, rfl⟩, by simp [intOf]; omega⟩
        · obtain rfl : k = j := by omega
          have hqq : decide ((k : Int) < (k : Int)) = false := by simp
          rw [← HPP.out] at HTH
          have HT2 : Hid (Ow w (wo.drewN n) x m L) := HT.out.later ⟨rfl, rfl, rfl, Nat.le_refl _, fun _ _ => rfl⟩
          obtain ⟨c0, c1⟩ := HZC.out _ HT2.out.bel
          have C1 := hid (fun q => addO (HT2.out.later (show Below (wo.drewN n).heap.size (wo.drewN n) ((wo.drewN n).drewN q) from ⟨rfl, rfl, rfl, Nat.le_refl _, fun _ _ => rfl⟩)) (by omega) z 1 ob)
          clear HPP
          have z1 : (true != true) = false := rfl
          have z2 : (false != false) = false := rfl
          cases hkz : okI z with
          | false =>
            obtain ⟨e1, e2⟩ := add_bad (L := L) ob hkz
            rw [e1, e2] at C1
            rw [e2] at HAD
            have hway : decide (z < 0) = true ∨ (decide (z < 0) = false ∧ decide (16777216 < z) = true) := by
              rw [okI_not] at hkz
              simp only [decide_eq_true_eq, decide_eq_false_iff_not]
              omega
            clear e1 e2 hkz HTH
            rcases hway with q1 | ⟨q1, q2⟩
            all_goals
              go_wp2_with fail
              go_region_with (go_at_call 25; refine (C1.out 1).mono ?_; rintro e w3 ⟨rfl, h3, -⟩; obtain ⟨k0', k1'⟩ := HZC.out w3 h3.bel)
              all_goals
                go_wp2_with fail
                exact ⟨⟨k + 1, by omega, by go_num, by rw [HAD.out], by rw [HAD.out]; exact h3⟩, by simp [intOf]; omega⟩
          | true =>
            have q1 : decide (z < 0) = false := by rw [okI_iff] at hkz; simp; omega
            have q2 : decide (16777216 < z) = false := by rw [okI_iff] at hkz; simp; omega
            cases p with
            | true =>
              obtain ⟨e1, e2⟩ := add_busy (L := L) ob hkz (by rw [HTH.out, hkz]; rfl)
              rw [e1, e2] at C1
              rw [e2] at HAD
              clear e1 e2 hkz HTH
              go_wp2_with fail
              go_region_with (go_at_call 25; refine (C1.out 1).mono ?_; rintro e w3 ⟨rfl, h3, -⟩; obtain ⟨k0', k1'⟩ := HZC.out w3 h3.bel)
              all_goals
                go_wp2_with fail
                exact ⟨⟨k + 1, by omega, by go_num, by rw [HAD.out], by rw [HAD.out]; exact h3⟩, by simp [intOf]; omega⟩
            | false =>
              have e1 := add_new (L := L) hkz (by rw [HTH.out, hkz]; rfl)
              have e3 := old_add HOK.out (o := ob) e1
              have HLN : Hid ((addL L z 1 ob).length = L.length + 1) := add_len_new ob e1
              rw [e1] at C1
              have C2 : Hid (∀ W, Ow w W x m (addL L z 1 ob) → Calls Try.prog 20 #[.pointer (some ⟨x, 0, none⟩), .int .i64 z] W fun e w' => e = .returned (.int .i64 (if ob then 1 else 0)) ∧ Ow w w' x m (addL L z 1 ob) ∧ Below W.heap.size W w') := fun W h => e3 ▸ oldO h hwf
              clear e1 e3 hkz HTH
              cases ob
              all_goals
                go_wp2_with fail
                go_region_with (go_at_call 25; refine (C1.out 1).mono ?_; rintro e w3 ⟨rfl, h3, -⟩; obtain ⟨k0', k1'⟩ := HZC.out w3 h3.bel)
                all_goals
                  go_wp2_with fail
                  refine (C2.out _ h3).mono ?_
                  rintro e w4 ⟨rfl, h4, -⟩
                  go_wp2_with fail
                  exact ⟨⟨k + 1, by omega, by go_num, by rw [HAD.out, HLN.out]; go_num, by rw [HAD.out]; exact h4⟩, by simp [intOf]; omega⟩
    · obtain rfl : j = I.length := by omega
      have d0 : decide ((I.length : Int) < (I.length : Int)) = false := by simp
      have hcnt := adN_cnt I O I.length
      obtain ⟨L, hL⟩ : ∃ L, L = adN I O I.length := ⟨_, rfl⟩
      rw [← hL] at hT hal hcnt
      rw [← hL]
      have HOK : Hid (Ok L) := hT.ls.ok
      have C5 := hid (orderO (hT.later (below_alloc wr (.cells #[.int .i64 1] 3))) (by omega) 1 (G := [1]) (Ints.one (RowAt.new wr #[.int .i64 1] 3) (by decide)) (by simp))
      have HCN : Hid (cntL L 1 = L.length) := hcnt
      clear hT hL hcnt hlt
      go_wp2_with fail
      refine C5.out.mono ?_
      rintro e w5 ⟨a5, c5, N, hN, rfl, hI5, h5, -⟩
      have HN : Hid (N = iL L [1]) := hN
      have HNL : Hid (N.length = L.length) := by show _ = _; rw [hN, iL_len HOK.out, HCN.out]
      have hnb : N.length ≤ 40 := by rw [HNL.out]; omega
      clear hN C5
      go_wp2_with fail
      go_loopw [15] (fun s15 wr => ∃ k : Nat, (k + 1 ≤ N.length ∨ k = 0) ∧ s15 = .int .i64 ((k : Int) + 1) ∧ Ow w wr x m L ∧ Ints wr a5 N) (fun s15 _ => (N.length + 1 - (intOf s15)).toNat)
      case atStart => exact ⟨0, Or.inr rfl, rfl, h5, hI5⟩
      case round =>
        clear h5 hI5
        obtain ⟨k, hk, rfl, hT, hIN⟩ := hrel
        by_cases hkl : k + 1 < N.length
        · have hqq : decide ((k : Int) + 1 < (N.length : Int)) = true := by simp; omega
          obtain ⟨b1, o1, rfl, g1, v1⟩ := hIN.get (j := k) (by omega)
          obtain ⟨b2, o2, e2, g2, v2⟩ := hIN.get hkl
          injection e2 with e2
          injection e2 with e3 e4
          subst e3
          subst e4
          obtain ⟨y1, hy1⟩ : ∃ y, y = N[k] := ⟨_, rfl⟩
          obtain ⟨y2, hy2⟩ : ∃ y, y = N[k + 1] := ⟨_, rfl⟩
          rw [← hy1] at g1 v1
          rw [← hy2] at g2 v2
          have hlt2 : decide (oldN L y1 < oldN L y2) = false := by
            have hk2 : k + 1 < (iL L [1]).length := by rw [← HN.out]; exact hkl
            obtain ⟨xx, yy, m1, m2, f1, f2, hah⟩ := iL_next HOK.out [1] hk2
            have f3 : y1 = xx.i := by rw [hy1, ← f1]; congr 1
            have f4 : y2 = yy.i := by rw [hy2, ← f2]; congr 1
            rw [f3, f4, old_mem HOK.out m1, old_mem HOK.out m2]
            rcases hah with h | h <;> simp <;> omega
          have K1 : Hid (∀ q : Up wr, Calls Try.prog 20 #[.pointer (some ⟨x, 0, none⟩), .int .i64 y1] q.p fun e w' => e = .returned (.int .i64 (oldN L y1)) ∧ Below q.p.heap.size q.p w') := fun q => poldness x m L y1 q.p (hT.ls.below q.h) v1
          have K2 : Hid (∀ q : Up wr, Calls Try.prog 20 #[.pointer (some ⟨x, 0, none⟩), .int .i64 y2] q.p fun e w' => e = .returned (.int .i64 (oldN L y2)) ∧ Below q.p.heap.size q.p w') := fun q => poldness x m L y2 q.p (hT.ls.below q.h) v2
          have HIN := hid hIN
          obtain ⟨A1, hA1⟩ : ∃ A, A = oldN L y1 := ⟨_, rfl⟩
          obtain ⟨A2, hA2⟩ : ∃ A, A = oldN L y2 := ⟨_, rfl⟩
          rw [← hA1] at K1 hlt2
          rw [← hA2] at K2 hlt2
          have g2' : wr.cell? ⟨b1, o1 + (k + 1), none⟩ = some (.int .i64 y2) := g2
          have l1 := Up.cell g1
          have l2 := Up.cell g2'
          have hne := Up.any wr
          have hkw : IntKind.i64.wrap ((k : Int) + 1 - 1) = (k : Int) := by
            have : (k : Int) + 1 - 1 = k := by omega
            rw [this]
            simp [IntKind.wrap, IntKind.bits, IntKind.signed]
            omega
          clear hy1 hy2 hA1 hA2 g1 g2 g2' hIN
          go_wp2_with fail
          refine wp_region_up (by kernel_rfl) (by kernel_rfl) ?_
          iterate 7 (go_big_quiet_step ((go_at_call 20; exact Up.call (K1.out _))))
          repeat (go_big_quiet_step ((go_at_call 20; exact Up.call (K2.out _))))
          refine wpQuiet_nil ?_
          intro w17 hw'
          obtain ⟨⟨_, hbw⟩, rfl⟩ := hw'
          have h7 := hT.later hbw
          have HI7 := hid (HIN.out.later hbw)
          clear l1 l2 hne K1 K2 hT hbw
          go_wp2
          exact ⟨⟨k + 1, Or.inl (by omega), by go_num, h7, HI7.out⟩, by simp [intOf]; omega⟩
        · have hqq : decide ((k : Int) + 1 < (N.length : Int)) = false := by simp; omega
          have hqn : decide (k + 1 < N.length) = false := by simp; omega
          have C6 := hid (countO hT (by omega) 1)
          rw [HCN.out] at C6
          have z3 : ((N.length : Int) == (L.length : Int)) = true := by simp [HNL.out]
          have z4 : ((L.length : Int) == (L.length : Int)) = true := by simp
          clear hT hIN hkl
          go_wp2_with fail
          refine C6.out.mono ?_
          rintro e w6 ⟨rfl, h6, -⟩
          have HB6 := hid h6.bel
          clear h6 C6
          go_wp2_with fail
          go_ret
          exact ⟨rfl, HB6.out⟩
theorem old_walk (ai : Option Addr) (ci : Nat) (I : List Int) (ao : Option Addr) (co : Nat) (O : List Bool) (w : World) (hI : Ints w ai I) (hO : Bools w ao O) :
    Calls Try.prog 7 #[.slice ai I.length ci, .slice ao O.length co] w fun e w' => e = .returned (.bool true) ∧ Below w.heap.size w w' := by
  by_cases h : I.length ≤ 40 ∧ I.length ≤ O.length
  · exact old_in ai ci I ao co O w h.1 h.2 hI hO
  · refine old_out ai ci _ ao co _ w ?_
    simp only [decide_eq_true_eq, decide_eq_false_iff_not]
    omega
end Go.Proofs.Ytfmgmelgfnppkaa
