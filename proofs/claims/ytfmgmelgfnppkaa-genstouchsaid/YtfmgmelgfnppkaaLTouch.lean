/-
  The law GensTouch walked.
-/
import Derived.Test.YtfmgmelgfnppkaaRow
namespace Go.Proofs.Ytfmgmelgfnppkaa
open Go.RowKit

/-- Is there one at i? -/
def thr (L : List En) (i : Int) : Bool := (lk L i).isSome
theorem thr_none {L : List En} {i : Int} (h : thr L i = false) : lk L i = none := none_of h
theorem noneE_thr (L : List En) (i : Int) : noneE L i = if thr L i then 0 else 2 := rfl
theorem grp_thr {L : List En} (h : Ok L) (i : Int) : decide (0 ≤ grpN L i) = thr L i := by
  unfold thr
  rcases grpN_range h i with ⟨e1, e2⟩ | ⟨e1, x, e2⟩
  · rw [e1, e2]; rfl
  · rw [e2]; simpa using e1
theorem thr_touch (L : List En) (i : Int) : thr (touchL L i) i = thr L i := by
  unfold thr
  rw [touchL_lk]
  cases lk L i <;> rfl
theorem old_touch_other {L : List En} (h : Ok L) {i o : Int} (ho : o ≠ i) : oldN (touchL L i) o = oldN L o := by
  have h1 := touchL_lk L i o
  cases hl : lk L o with
  | none => rw [hl] at h1; rw [oldN_none h1, oldN_none hl]
  | some x =>
    rw [hl] at h1
    have := (h.lk hl).2
    have hne : x.i ≠ i := by omega
    rw [oldN_some h1, oldN_some hl]
    simp [tou, hne]
theorem old_touch_self {L : List En} (h : Ok L) {i : Int} (ht : thr L i = true) : oldN (touchL L i) i = 0 := by
  obtain ⟨x, hx⟩ := some_ok ht
  have h1 := touchL_lk L i i
  rw [hx] at h1
  have := (h.lk hx).2
  rw [oldN_some h1]
  simp [tou, this]
theorem grp_touch (L : List En) (i : Int) : grpN (touchL L i) i = grpN L i := by
  have h1 := touchL_lk L i i
  cases hl : lk L i with
  | none => rw [hl] at h1; rw [grpN_none h1, grpN_none hl]
  | some x => rw [hl] at h1; rw [grpN_some h1, grpN_some hl, tou_g]
theorem grp_drop (L : List En) (i : Int) : grpN (dropL L i) i = -1 := grpN_none (by rw [dropL_lk, if_pos rfl])
theorem old_drop (L : List En) (i : Int) : oldN (dropL L i) i = -1 := oldN_none (by rw [dropL_lk, if_pos rfl])
theorem iL_drop {L : List En} (h : Ok L) (i : Int) (G : List Int) : (iL (dropL L i) G).length + (if thr L i && (G.any fun g => g == grpN L i) then 1 else 0) = (iL L G).length := by
  unfold iL
  rw [List.length_map, List.length_map]
  cases hl : lk L i with
  | none =>
    have : thr L i = false := by simp [thr, hl]
    rw [dropL_none hl, this]
    simp
  | some x =>
    have : thr L i = true := by simp [thr, hl]
    rw [this, grpN_some hl, ← drop_len h hl G]
    rfl

theorem iL_le {L : List En} (h : Ok L) (G : List Int) : (iL L G).length ≤ L.length := by
  unfold iL
  rw [List.length_map, ordL_len h]
  exact List.countP_le_length

theorem touch_out (a : Option Addr) (cap n : Nat) (i o : Int) (b : Option Addr) (cb k : Nat) (w : World) (h : decide ((80 : Int) < (n : Int)) = true ∨ (decide ((80 : Int) < (n : Int)) = false ∧ decide ((80 : Int) < (k : Int)) = true)) :
    Calls Try.prog 6 #[.slice a n cap, .int .i64 i, .int .i64 o, .slice b k cb] w fun e w' => e = .returned (.bool true) ∧ Below w.heap.size w w' := by
  rcases h with q1 | ⟨q1, q2⟩
  all_goals
    go_enter Try.func6, Try.ntmps6
    go_wp2_with (go_at_call 9; refine (works_any _).mono ?_; rintro e w1 ⟨rfl, hb⟩)
    go_ret
    exact ⟨rfl, hb⟩

set_option maxRecDepth 100000 in
set_option maxHeartbeats 8000000 in
theorem touch_in (a : Option Addr) (cap : Nat) (l : List Ac) (i o : Int) (bg : Option Addr) (cg : Nat) (G : List Int) (w : World) (hl : l.length ≤ 80) (hgl : G.length ≤ 80) (hc : ActsAt w a l) (hi : (Lit.int .i64 i).wf = true) (ho : (Lit.int .i64 o).wf = true) (hG : Ints w bg G) :
    Calls Try.prog 6 #[.slice a l.length cap, .int .i64 i, .int .i64 o, .slice bg G.length cg] w fun e w' => e = .returned (.bool true) ∧ Below w.heap.size w w' := by
  have d1 : decide ((80 : Int) < (l.length : Int)) = false := by simp; omega
  have d2 : decide ((80 : Int) < (G.length : Int)) = false := by simp; omega
  have HGI : Hid (Ints w bg G) := hG
  clear hG
  go_enter Try.func6, Try.ntmps6
  go_wp2_with fail
  refine (works_any _).mono ?_
  rintro e w1 ⟨rfl, hb1⟩
  go_wp2_with fail
  refine (newO hb1).mono ?_
  rintro e w2 ⟨x, m, rfl, h2, -⟩
  clear hb1 d1 d2
  go_wp2_with fail
  go_loopw [11] (fun s11 wr => ∃ j : Nat, j ≤ l.length ∧ s11 = .int .i64 j ∧ Ow w wr x m (doN l j)) (fun s11 _ => l.length - (intOf s11).toNat)
  case atStart => exact ⟨0, by omega, rfl, h2⟩
  case round =>
    clear h2
    obtain ⟨j, hj, rfl, hT⟩ := hrel
    have hdl := doN_len l j hj
    by_cases hlt : j < l.length
    · obtain ⟨b, off, rfl, k0, k1, k2, k3, hw⟩ := (hc.below hT.bel).at hlt
      have hD := doN_succ l j hlt
      obtain ⟨r, hr⟩ : ∃ r, r = l[j] := ⟨_, rfl⟩
      rw [← hr] at k0 k1 k2 k3 hw hD
      have d0 : decide ((j : Int) < (l.length : Int)) = true := by simp; omega
      have C := hid (doO hT (by omega) r hw)
      have HD : Hid (doN l (j + 1) = doA (doN l j) r) := hD
      clear hr hw hD hT
      go_wp2_with fail
      refine C.out.mono ?_
      rintro e w3 ⟨rfl, h3, -⟩
      rw [← HD.out] at h3
      clear C
      go_wp2_with fail
      exact ⟨⟨j + 1, by omega, by go_num, h3⟩, by simp [intOf]; omega⟩
    · obtain rfl : j = l.length := by omega
      have d0 : decide ((l.length : Int) < (l.length : Int)) = false := by simp
      obtain ⟨L, hL⟩ : ∃ L, L = doN l l.length := ⟨_, rfl⟩
      rw [← hL] at hT hdl
      have hLl : L.length < 900000 := by omega
      have HOK : Hid (Ok L) := hT.ls.ok
      have HLL : Hid (L.length ≤ 80) := (by show _ ≤ _; omega)
      clear hL hdl hlt hc hLl
      have C2 := hid (oldO hT ho)
      clear hT
      obtain ⟨wa, hwa⟩ : ∃ v, v = oldN L o := ⟨_, rfl⟩
      rw [← hwa] at C2
      have HWA : Hid (wa = oldN L o) := hwa
      clear hwa
      go_wp2_with fail
      refine C2.out.mono ?_
      rintro e w4 ⟨rfl, h4, -⟩
      have C3 := hid (groupO h4 hi)
      clear h4 C2
      obtain ⟨g, hg⟩ : ∃ v, v = grpN L i := ⟨_, rfl⟩
      rw [← hg] at C3
      have HG : Hid (g = grpN L i) := hg
      have hq0 := grp_thr HOK.out i
      rw [← hg] at hq0
      clear hg
      go_wp2_with fail
      refine C3.out.mono ?_
      rintro e w5 ⟨rfl, h5, -⟩
      have C4 := hid (touchO h5 (by have := HLL.out; omega) hi)
      rw [noneE_thr] at C4
      have HO1 : Hid (Ok (touchL L i)) := touchL_ok HOK.out i
      have HD1 := hid (iL_drop (touchL_ok HOK.out i) i G)
      have HS1 : Hid (thr L i = true → oldN (touchL L i) i = 0) := old_touch_self HOK.out
      have HS2 : Hid (grpN (touchL L i) i = g) := by show _ = _; rw [grp_touch, HG.out]
      have HS3 : Hid (o ≠ i → oldN (touchL L i) o = wa) := fun h => by rw [old_touch_other HOK.out h, HWA.out]
      have HS4 : Hid (noneE (touchL L i) i = if thr L i then 0 else 2) := by show _ = _; rw [noneE_thr, thr_touch]
      have HLT : Hid ((touchL L i).length ≤ 80) := by show _ ≤ _; have := HLL.out; simp [touchL, turn_len]; exact this
      rw [thr_touch, HS2.out] at HD1
      obtain ⟨L1, hL1⟩ : ∃ L1, L1 = touchL L i := ⟨_, rfl⟩
      rw [← hL1] at C4 HO1 HD1 HS1 HS2 HS3 HS4 HLT
      obtain ⟨tb, htb⟩ : ∃ tb, tb = thr L i := ⟨_, rfl⟩
      rw [← htb] at C4 HD1 HS1 HS4 hq0
      clear h5 C3 hL1 htb
      have HOI : Hid ((o != i) = true ∧ o ≠ i ∨ (o != i) = false) := by
        by_cases h : o = i
        · exact Or.inr (by simp [h])
        · exact Or.inl ⟨by simpa using h, h⟩
      have z1 : (wa != wa) = false := by simp
      have z2 : (g != g) = false := by simp
      have hoi := HOI.out
      clear HOI
      rcases hoi with ⟨q1, hne⟩ | q1 <;> cases tb
      · rw [if_neg (by simp)] at C4
        go_wp2_with fail
        refine C4.out.mono ?_
        rintro e w6 ⟨rfl, h6, -⟩
        have C5 := hid (oldO h6 ho)
        rw [HS3.out hne] at C5
        clear h6 C4
        go_wp2_with fail
        refine C5.out.mono ?_
        rintro e w7 ⟨rfl, h7, -⟩
        have H9 := hid h7
        clear h7
        have hl1 := HLT.out
        have C8 := hid (orderO H9.out (by omega) cg (HGI.out.later H9.out.bel) (by omega))
        go_wp2_with fail
        refine C8.out.mono ?_
        rintro e w10 ⟨a10, c10, N, hN, rfl, -, h10, -⟩
        have HNN : Hid ((iL (dropL L1 i) G).length + (if false && (G.any fun z => z == g) then 1 else 0) = N.length) := by show _ = _; rw [hN]; exact HD1.out
        have H10 := hid h10
        clear h10 hN C8 H9
        go_wp2_with fail
        go_loopw [16, 17] (fun s16 s17 wr => ∃ (q : Nat) (p : Bool), q ≤ G.length ∧ s17 = .int .i64 q ∧ s16 = .bool p ∧ p = ((G.take q).any fun z => z == g) ∧ wr = w10) (fun _ s17 _ => G.length - (intOf s17).toNat)
        case atStart => exact ⟨0, false, by omega, rfl, rfl, rfl, rfl⟩
        case round =>
          obtain ⟨q, p, hq, rfl, rfl, hp, rfl⟩ := hrel
          have HPP : Hid (p = (G.take q).any fun z => z == g) := hp
          clear hp
          by_cases hql : q < G.length
          · have hqq : decide ((q : Int) < (G.length : Int)) = true := by simp; omega
            obtain ⟨b2, o2, rfl, hgc, -⟩ := (HGI.out.later H10.out.bel).get hql
            obtain ⟨z, hz⟩ : ∃ z, z = G[q] := ⟨_, rfl⟩
            rw [← hz] at hgc
            have HZ : Hid (((G.take (q + 1)).any fun z => z == g) = (p || z == g)) := by show _ = _; rw [any_next G g hql, hz, HPP.out]
            clear hz
            cases p with
            | true =>
              go_wp2
              exact ⟨⟨q + 1, true, by omega, by go_num, rfl, HZ.out.symm, trivial⟩, by simp [intOf]; omega⟩
            | false =>
              cases hzy : (z == g)
              all_goals
                rw [hzy] at HZ
                go_wp2
                exact ⟨⟨q + 1, _, by omega, by go_num, rfl, HZ.out.symm, trivial⟩, by simp [intOf]; omega⟩
          · obtain rfl : q = G.length := by omega
            have hqq : decide ((G.length : Int) < (G.length : Int)) = false := by simp
            have hpe : (G.any fun z => z == g) = p := by rw [HPP.out, List.take_length]
            rw [hpe] at HNN
            have C9 := hid (dropO H10.out hi)
            rw [HS4.out] at C9
            have hdl2 : (dropL L1 i).length ≤ 80 := by have := dropL_len L1 i; omega
            clear hpe H10 HPP
            rw [if_neg (by simp)] at C9
            cases p
            all_goals
              go_wp2_with fail
              refine C9.out.mono ?_
              rintro e w11 ⟨rfl, h11, -⟩
              have C10 := hid (groupO h11 hi)
              rw [grp_drop] at C10
              clear h11
              go_wp2_with fail
              refine C10.out.mono ?_
              rintro e w12 ⟨rfl, h12, -⟩
              have C11 := hid (oldO h12 hi)
              rw [old_drop] at C11
              clear h12 C10
              go_wp2_with fail
              refine C11.out.mono ?_
              rintro e w13 ⟨rfl, h13, -⟩
              have C12 := hid (orderO h13 (by omega) cg (HGI.out.later h13.bel) (by omega))
              clear h13 C11
              go_wp2_with fail
              refine C12.out.mono ?_
              rintro e w14 ⟨a14, c14, N2, hN2, rfl, -, h14, -⟩
              have hn2 : N2.length ≤ 80 := by rw [hN2]; exact Nat.le_trans (iL_le (dropL_ok HO1.out i) G) hdl2
              have hnn := HNN.out
              rw [← hN2] at hnn
              have HB14 := hid h14.bel
              clear h14 hN2 C12
              first | rw [if_pos (by rfl)] at hnn | rw [if_neg (by simp), Nat.add_zero] at hnn
              rw [← hnn]
              have zz : ((N2.length : Int) == ((N2.length + 1 : Nat) : Int) - 1) = true := by simp
              have zy : ((N2.length : Int) == (N2.length : Int)) = true := by simp
              clear hnn HNN
              go_wp2_with fail
              go_ret
              exact ⟨rfl, HB14.out⟩
      · rw [if_pos rfl] at C4
        go_wp2_with fail
        refine C4.out.mono ?_
        rintro e w6 ⟨rfl, h6, -⟩
        have C5 := hid (oldO h6 ho)
        rw [HS3.out hne] at C5
        clear h6 C4
        go_wp2_with fail
        refine C5.out.mono ?_
        rintro e w7 ⟨rfl, h7, -⟩
        have C6 := hid (oldO h7 hi)
        rw [HS1.out trivial] at C6
        clear h7
        go_wp2_with fail
        refine C6.out.mono ?_
        rintro e w8 ⟨rfl, h8, -⟩
        have C7 := hid (groupO h8 hi)
        rw [HS2.out] at C7
        clear h8 C6
        go_wp2_with fail
        refine C7.out.mono ?_
        rintro e w9 ⟨rfl, h9, -⟩
        have H9 := hid h9
        clear h9
        have hl1 := HLT.out
        have C8 := hid (orderO H9.out (by omega) cg (HGI.out.later H9.out.bel) (by omega))
        go_wp2_with fail
        refine C8.out.mono ?_
        rintro e w10 ⟨a10, c10, N, hN, rfl, -, h10, -⟩
        have HNN : Hid ((iL (dropL L1 i) G).length + (if true && (G.any fun z => z == g) then 1 else 0) = N.length) := by show _ = _; rw [hN]; exact HD1.out
        have H10 := hid h10
        clear h10 hN C8 H9
        go_wp2_with fail
        go_loopw [16, 17] (fun s16 s17 wr => ∃ (q : Nat) (p : Bool), q ≤ G.length ∧ s17 = .int .i64 q ∧ s16 = .bool p ∧ p = ((G.take q).any fun z => z == g) ∧ wr = w10) (fun _ s17 _ => G.length - (intOf s17).toNat)
        case atStart => exact ⟨0, false, by omega, rfl, rfl, rfl, rfl⟩
        case round =>
          obtain ⟨q, p, hq, rfl, rfl, hp, rfl⟩ := hrel
          have HPP : Hid (p = (G.take q).any fun z => z == g) := hp
          clear hp
          by_cases hql : q < G.length
          · have hqq : decide ((q : Int) < (G.length : Int)) = true := by simp; omega
            obtain ⟨b2, o2, rfl, hgc, -⟩ := (HGI.out.later H10.out.bel).get hql
            obtain ⟨z, hz⟩ : ∃ z, z = G[q] := ⟨_, rfl⟩
            rw [← hz] at hgc
            have HZ : Hid (((G.take (q + 1)).any fun z => z == g) = (p || z == g)) := by show _ = _; rw [any_next G g hql, hz, HPP.out]
            clear hz
            cases p with
            | true =>
              go_wp2
              exact ⟨⟨q + 1, true, by omega, by go_num, rfl, HZ.out.symm, trivial⟩, by simp [intOf]; omega⟩
            | false =>
              cases hzy : (z == g)
              all_goals
                rw [hzy] at HZ
                go_wp2
                exact ⟨⟨q + 1, _, by omega, by go_num, rfl, HZ.out.symm, trivial⟩, by simp [intOf]; omega⟩
          · obtain rfl : q = G.length := by omega
            have hqq : decide ((G.length : Int) < (G.length : Int)) = false := by simp
            have hpe : (G.any fun z => z == g) = p := by rw [HPP.out, List.take_length]
            rw [hpe] at HNN
            have C9 := hid (dropO H10.out hi)
            rw [HS4.out] at C9
            have hdl2 : (dropL L1 i).length ≤ 80 := by have := dropL_len L1 i; omega
            clear hpe H10 HPP
            rw [if_pos trivial] at C9
            cases p
            all_goals
              go_wp2_with fail
              refine C9.out.mono ?_
              rintro e w11 ⟨rfl, h11, -⟩
              have C10 := hid (groupO h11 hi)
              rw [grp_drop] at C10
              clear h11
              go_wp2_with fail
              refine C10.out.mono ?_
              rintro e w12 ⟨rfl, h12, -⟩
              have C11 := hid (oldO h12 hi)
              rw [old_drop] at C11
              clear h12 C10
              go_wp2_with fail
              refine C11.out.mono ?_
              rintro e w13 ⟨rfl, h13, -⟩
              have C12 := hid (orderO h13 (by omega) cg (HGI.out.later h13.bel) (by omega))
              clear h13 C11
              go_wp2_with fail
              refine C12.out.mono ?_
              rintro e w14 ⟨a14, c14, N2, hN2, rfl, -, h14, -⟩
              have hn2 : N2.length ≤ 80 := by rw [hN2]; exact Nat.le_trans (iL_le (dropL_ok HO1.out i) G) hdl2
              have hnn := HNN.out
              rw [← hN2] at hnn
              have HB14 := hid h14.bel
              clear h14 hN2 C12
              first | rw [if_pos (by rfl)] at hnn | rw [if_neg (by simp), Nat.add_zero] at hnn
              rw [← hnn]
              have zz : ((N2.length : Int) == ((N2.length + 1 : Nat) : Int) - 1) = true := by simp
              have zy : ((N2.length : Int) == (N2.length : Int)) = true := by simp
              clear hnn HNN
              go_wp2_with fail
              go_ret
              exact ⟨rfl, HB14.out⟩
      · rw [if_neg (by simp)] at C4
        go_wp2_with fail
        refine C4.out.mono ?_
        rintro e w6 ⟨rfl, h6, -⟩
        have H9 := hid h6
        clear h6
        have hl1 := HLT.out
        have C8 := hid (orderO H9.out (by omega) cg (HGI.out.later H9.out.bel) (by omega))
        go_wp2_with fail
        refine C8.out.mono ?_
        rintro e w10 ⟨a10, c10, N, hN, rfl, -, h10, -⟩
        have HNN : Hid ((iL (dropL L1 i) G).length + (if false && (G.any fun z => z == g) then 1 else 0) = N.length) := by show _ = _; rw [hN]; exact HD1.out
        have H10 := hid h10
        clear h10 hN C8 H9
        go_wp2_with fail
        go_loopw [16, 17] (fun s16 s17 wr => ∃ (q : Nat) (p : Bool), q ≤ G.length ∧ s17 = .int .i64 q ∧ s16 = .bool p ∧ p = ((G.take q).any fun z => z == g) ∧ wr = w10) (fun _ s17 _ => G.length - (intOf s17).toNat)
        case atStart => exact ⟨0, false, by omega, rfl, rfl, rfl, rfl⟩
        case round =>
          obtain ⟨q, p, hq, rfl, rfl, hp, rfl⟩ := hrel
          have HPP : Hid (p = (G.take q).any fun z => z == g) := hp
          clear hp
          by_cases hql : q < G.length
          · have hqq : decide ((q : Int) < (G.length : Int)) = true := by simp; omega
            obtain ⟨b2, o2, rfl, hgc, -⟩ := (HGI.out.later H10.out.bel).get hql
            obtain ⟨z, hz⟩ : ∃ z, z = G[q] := ⟨_, rfl⟩
            rw [← hz] at hgc
            have HZ : Hid (((G.take (q + 1)).any fun z => z == g) = (p || z == g)) := by show _ = _; rw [any_next G g hql, hz, HPP.out]
            clear hz
            cases p with
            | true =>
              go_wp2
              exact ⟨⟨q + 1, true, by omega, by go_num, rfl, HZ.out.symm, trivial⟩, by simp [intOf]; omega⟩
            | false =>
              cases hzy : (z == g)
              all_goals
                rw [hzy] at HZ
                go_wp2
                exact ⟨⟨q + 1, _, by omega, by go_num, rfl, HZ.out.symm, trivial⟩, by simp [intOf]; omega⟩
          · obtain rfl : q = G.length := by omega
            have hqq : decide ((G.length : Int) < (G.length : Int)) = false := by simp
            have hpe : (G.any fun z => z == g) = p := by rw [HPP.out, List.take_length]
            rw [hpe] at HNN
            have C9 := hid (dropO H10.out hi)
            rw [HS4.out] at C9
            have hdl2 : (dropL L1 i).length ≤ 80 := by have := dropL_len L1 i; omega
            clear hpe H10 HPP
            rw [if_neg (by simp)] at C9
            cases p
            all_goals
              go_wp2_with fail
              refine C9.out.mono ?_
              rintro e w11 ⟨rfl, h11, -⟩
              have C10 := hid (groupO h11 hi)
              rw [grp_drop] at C10
              clear h11
              go_wp2_with fail
              refine C10.out.mono ?_
              rintro e w12 ⟨rfl, h12, -⟩
              have C11 := hid (oldO h12 hi)
              rw [old_drop] at C11
              clear h12 C10
              go_wp2_with fail
              refine C11.out.mono ?_
              rintro e w13 ⟨rfl, h13, -⟩
              have C12 := hid (orderO h13 (by omega) cg (HGI.out.later h13.bel) (by omega))
              clear h13 C11
              go_wp2_with fail
              refine C12.out.mono ?_
              rintro e w14 ⟨a14, c14, N2, hN2, rfl, -, h14, -⟩
              have hn2 : N2.length ≤ 80 := by rw [hN2]; exact Nat.le_trans (iL_le (dropL_ok HO1.out i) G) hdl2
              have hnn := HNN.out
              rw [← hN2] at hnn
              have HB14 := hid h14.bel
              clear h14 hN2 C12
              first | rw [if_pos (by rfl)] at hnn | rw [if_neg (by simp), Nat.add_zero] at hnn
              rw [← hnn]
              have zz : ((N2.length : Int) == ((N2.length + 1 : Nat) : Int) - 1) = true := by simp
              have zy : ((N2.length : Int) == (N2.length : Int)) = true := by simp
              clear hnn HNN
              go_wp2_with fail
              go_ret
              exact ⟨rfl, HB14.out⟩
      · rw [if_pos rfl] at C4
        go_wp2_with fail
        refine C4.out.mono ?_
        rintro e w6 ⟨rfl, h6, -⟩
        have C6 := hid (oldO h6 hi)
        rw [HS1.out trivial] at C6
        clear h6
        go_wp2_with fail
        refine C6.out.mono ?_
        rintro e w8 ⟨rfl, h8, -⟩
        have C7 := hid (groupO h8 hi)
        rw [HS2.out] at C7
        clear h8 C6
        go_wp2_with fail
        refine C7.out.mono ?_
        rintro e w9 ⟨rfl, h9, -⟩
        have H9 := hid h9
        clear h9
        have hl1 := HLT.out
        have C8 := hid (orderO H9.out (by omega) cg (HGI.out.later H9.out.bel) (by omega))
        go_wp2_with fail
        refine C8.out.mono ?_
        rintro e w10 ⟨a10, c10, N, hN, rfl, -, h10, -⟩
        have HNN : Hid ((iL (dropL L1 i) G).length + (if true && (G.any fun z => z == g) then 1 else 0) = N.length) := by show _ = _; rw [hN]; exact HD1.out
        have H10 := hid h10
        clear h10 hN C8 H9
        go_wp2_with fail
        go_loopw [16, 17] (fun s16 s17 wr => ∃ (q : Nat) (p : Bool), q ≤ G.length ∧ s17 = .int .i64 q ∧ s16 = .bool p ∧ p = ((G.take q).any fun z => z == g) ∧ wr = w10) (fun _ s17 _ => G.length - (intOf s17).toNat)
        case atStart => exact ⟨0, false, by omega, rfl, rfl, rfl, rfl⟩
        case round =>
          obtain ⟨q, p, hq, rfl, rfl, hp, rfl⟩ := hrel
          have HPP : Hid (p = (G.take q).any fun z => z == g) := hp
          clear hp
          by_cases hql : q < G.length
          · have hqq : decide ((q : Int) < (G.length : Int)) = true := by simp; omega
            obtain ⟨b2, o2, rfl, hgc, -⟩ := (HGI.out.later H10.out.bel).get hql
            obtain ⟨z, hz⟩ : ∃ z, z = G[q] := ⟨_, rfl⟩
            rw [← hz] at hgc
            have HZ : Hid (((G.take (q + 1)).any fun z => z == g) = (p || z == g)) := by show _ = _; rw [any_next G g hql, hz, HPP.out]
            clear hz
            cases p with
            | true =>
              go_wp2
              exact ⟨⟨q + 1, true, by omega, by go_num, rfl, HZ.out.symm, trivial⟩, by simp [intOf]; omega⟩
            | false =>
              cases hzy : (z == g)
              all_goals
                rw [hzy] at HZ
                go_wp2
                exact ⟨⟨q + 1, _, by omega, by go_num, rfl, HZ.out.symm, trivial⟩, by simp [intOf]; omega⟩
          · obtain rfl : q = G.length := by omega
            have hqq : decide ((G.length : Int) < (G.length : Int)) = false := by simp
            have hpe : (G.any fun z => z == g) = p := by rw [HPP.out, List.take_length]
            rw [hpe] at HNN
            have C9 := hid (dropO H10.out hi)
            rw [HS4.out] at C9
            have hdl2 : (dropL L1 i).length ≤ 80 := by have := dropL_len L1 i; omega
            clear hpe H10 HPP
            rw [if_pos trivial] at C9
            cases p
            all_goals
              go_wp2_with fail
              refine C9.out.mono ?_
              rintro e w11 ⟨rfl, h11, -⟩
              have C10 := hid (groupO h11 hi)
              rw [grp_drop] at C10
              clear h11
              go_wp2_with fail
              refine C10.out.mono ?_
              rintro e w12 ⟨rfl, h12, -⟩
              have C11 := hid (oldO h12 hi)
              rw [old_drop] at C11
              clear h12 C10
              go_wp2_with fail
              refine C11.out.mono ?_
              rintro e w13 ⟨rfl, h13, -⟩
              have C12 := hid (orderO h13 (by omega) cg (HGI.out.later h13.bel) (by omega))
              clear h13 C11
              go_wp2_with fail
              refine C12.out.mono ?_
              rintro e w14 ⟨a14, c14, N2, hN2, rfl, -, h14, -⟩
              have hn2 : N2.length ≤ 80 := by rw [hN2]; exact Nat.le_trans (iL_le (dropL_ok HO1.out i) G) hdl2
              have hnn := HNN.out
              rw [← hN2] at hnn
              have HB14 := hid h14.bel
              clear h14 hN2 C12
              first | rw [if_pos (by rfl)] at hnn | rw [if_neg (by simp), Nat.add_zero] at hnn
              rw [← hnn]
              have zz : ((N2.length : Int) == ((N2.length + 1 : Nat) : Int) - 1) = true := by simp
              have zy : ((N2.length : Int) == (N2.length : Int)) = true := by simp
              clear hnn HNN
              go_wp2_with fail
              go_ret
              exact ⟨rfl, HB14.out⟩
theorem touch_walk (a : Option Addr) (cap : Nat) (l : List Ac) (i o : Int) (bg : Option Addr) (cg : Nat) (G : List Int) (w : World) (hc : ActsAt w a l) (hi : (Lit.int .i64 i).wf = true) (ho : (Lit.int .i64 o).wf = true) (hG : Ints w bg G) :
    Calls Try.prog 6 #[.slice a l.length cap, .int .i64 i, .int .i64 o, .slice bg G.length cg] w fun e w' => e = .returned (.bool true) ∧ Below w.heap.size w w' := by
  by_cases h : l.length ≤ 80 ∧ G.length ≤ 80
  · exact touch_in a cap l i o bg cg G w h.1 h.2 hc hi ho hG
  · refine touch_out a cap _ i o bg cg _ w ?_
    simp only [decide_eq_true_eq, decide_eq_false_iff_not]
    omega
end Go.Proofs.Ytfmgmelgfnppkaa
