/-
  ProtectNone, walked.
-/
import Derived.Test.YtimgpikgkbjliaaWorks
import Derived.Test.YtimgpikgkbjliaaOpen
import Derived.Test.YtimgpikgkbjliaaNMath
import Derived.Test.YtimgpikgkbjliaaTwo
import Derived.Deep.CutBlock
import Derived.Deep.DeepCutAuto
namespace Go.Proofs.Ytimgpikgkbjliaa
open Go.RowKit

/-- One place of the sums more, in memory. -/
theorem nst_row {w : World} {bu : Nat} {U : List Int} {i : Nat} {r p : Int} (h : RowAt w bu 3 (ci U)) :
    RowAt (w.setCell ⟨bu, i, none⟩ (.int .i64 (at0 U i + r))) bu 3 (ci (U.set i (at0 U i + r))) ∧
    (0 ≤ p → ∀ W, RowAt W bu 3 (ci (U.set i (at0 U i + r))) → RowAt (W.setCell ⟨bu, p.toNat, none⟩ (.int .i64 (at0 U p.toNat + (at0 U i + r)))) bu 3 (ci (nst U i r p))) ∧
    (¬ 0 ≤ p → U.set i (at0 U i + r) = nst U i r p) := by
  refine ⟨by rw [← ci_set]; exact h.set i _, fun h0 W hW => ?_, fun h0 => ?_⟩
  · unfold nst
    rw [if_pos h0, ← ci_set]
    exact hW.set _ _
  · unfold nst
    rw [if_neg h0]

set_option maxRecDepth 100000 in
set_option maxHeartbeats 8000000 in
theorem none_walk (a : Option Addr) (cap : Nat) (G : List Nd) (t : Int) (w : World) (h : ListIn w a cap G) :
    Calls Try.prog 7 #[.slice a G.length cap, .int .i64 t] w fun e w' => e = .returned (.bool true) ∧ Below w.heap.size w w' := by
  obtain ⟨hn, hle⟩ := h
  have HW := (show Hid (∀ w, Calls Try.prog 9 #[] w fun e w' => e = .returned (.bool true) ∧ Below w.heap.size w w') from works)
  by_cases h64 : 64 < G.length
  · have hd : decide (64 < G.length) = true := by simpa using h64
    go_enter Try.func7, Try.ntmps7
    go_wp2_with fail
    refine (HW.out _).mono ?_
    rintro e w1 ⟨rfl, hb1⟩
    go_wp2
    go_ret
    exact ⟨rfl, hb1⟩
  have d64 : decide (64 < G.length) = false := by simpa using h64
  have d64i : decide ((64 : Int) < (G.length : Int)) = false := by simp; omega
  have HG : Hid (∀ w', Below w.heap.size w w' → Nds w' a cap G) := fun w' hb => hn.later hb
  have HV : Hid (∀ w', Nds w' a cap G → Calls Try.prog 14 #[.slice a G.length cap] w' fun e w'' => e = .returned (.bool (vd G)) ∧ Below w'.heap.size w' w'') := fun w' h => pvalid a cap G w' h (by omega)
  cases hv : vd G with
  | false =>
    rw [hv] at HV
    clear hv
    go_enter Try.func7, Try.ntmps7
    go_wp2_with fail
    refine (HW.out _).mono ?_
    rintro e w1 ⟨rfl, hb1⟩
    go_wp2_with fail
    refine (HV.out _ (HG.out _ hb1)).mono ?_
    rintro e w2 ⟨rfl, hb2⟩
    go_wp2
    go_ret
    exact ⟨rfl, bel_trans hb1 hb2⟩
  | true =>
    rw [hv] at HV
    by_cases ht0 : t < 0
    · have x1 : decide (t < 0) = true := by simpa using ht0
      clear hv
      go_enter Try.func7, Try.ntmps7
      go_wp2_with fail
      refine (HW.out _).mono ?_
      rintro e w1 ⟨rfl, hb1⟩
      go_wp2_with fail
      refine (HV.out _ (HG.out _ hb1)).mono ?_
      rintro e w2 ⟨rfl, hb2⟩
      go_wp2
      go_ret
      exact ⟨rfl, bel_trans hb1 hb2⟩
    by_cases ht1 : (G.length : Int) ≤ t
    · have x1 : decide (t < 0) = false := by simpa using ht0
      have x2 : decide ((G.length : Int) ≤ t) = true := by simpa using ht1
      clear hv
      go_enter Try.func7, Try.ntmps7
      go_wp2_with fail
      refine (HW.out _).mono ?_
      rintro e w1 ⟨rfl, hb1⟩
      go_wp2_with fail
      refine (HV.out _ (HG.out _ hb1)).mono ?_
      rintro e w2 ⟨rfl, hb2⟩
      go_wp2
      go_ret
      exact ⟨rfl, bel_trans hb1 hb2⟩
    obtain ⟨T, rfl⟩ := Int.eq_ofNat_of_zero_le (show 0 ≤ t by omega)
    have hT : T < G.length := by omega
    have x1 : decide ((T : Int) < 0) = false := by simp
    have x2 : decide (G.length ≤ T) = false := by simp; omega
    have hok := ok_of hv
    have hlen64 := hok.len
    have HVD : Hid (vd G = true) := hv
    clear ht0 ht1 hv hn
    go_enter Try.func7, Try.ntmps7
    go_wp2_with fail
    refine (HW.out _).mono ?_
    rintro e w1 ⟨rfl, hb1⟩
    go_wp2_with fail
    refine (HV.out _ (HG.out _ hb1)).mono ?_
    rintro e w3 ⟨rfl, hb2⟩
    have hb3 := bel_trans hb1 hb2
    go_wp2_with (at_make; refine wpList_make_row _ rfl (.tmp 39) (.tmp 39) 25 rfl 3 (.int .i64 0) 8 Try.underlying25 info3 rfl .i64 .i64 _ _ G.length rfl rfl rfl rfl (by omega) (by omega) ?_; intro w4 hr4 hz4 hb4)
    rw [ci_zero] at hr4
    have hb4' := bel_trans hb3 hb4
    have hbu : w.heap.size ≤ w3.heap.size := hb3.size
    have HN0 : Hid (NI G G.length (List.replicate G.length 0)) := ni_zero G
    generalize w3.heap.size = bu at *
    clear hb1 hb2 hb3 hb4 hz4 HV HW
    go_loopw [9] (fun s9 wr => ∃ (k : Nat) (U : List Int), k ≤ G.length ∧ s9 = .int .i64 ((k : Int) - 1) ∧ Hid (NI G k U) ∧ RowAt wr bu 3 (ci U) ∧ Below w.heap.size w wr) (fun s9 _ => (intOf s9 + 1).toNat)
    case atStart => exact ⟨G.length, _, by omega, by go_num, HN0, hr4, hb4'⟩
    case round =>
      clear hr4 hb4' HN0
      obtain ⟨k, U, hk, rfl, HN, hr, hb⟩ := hrel
      cases k with
      | succ i =>
        have e0 : (((i + 1 : Nat) : Int) - 1) = (i : Int) := by omega
        rw [e0]
        have hil : i < G.length := by omega
        obtain ⟨b, off, rfl, c0, c1, -⟩ := (HG.out _ hb).get hil
        have hu := hok.u i
        have hpl := par_lo hok hil
        obtain ⟨u, hue⟩ : ∃ u, u = use G i := ⟨_, rfl⟩
        rw [← hue] at c1 hu
        obtain ⟨p, hp⟩ : ∃ p, p = par G i := ⟨_, rfl⟩
        rw [← hp] at c0 hpl
        have hUl := HN.out.len
        have hst := ni_step hok hil HN.out (r := u % 1000) ⟨Int.emod_nonneg _ (by decide), by have := Int.emod_lt_of_pos u (b := 1000) (by decide); omega⟩
        rw [← hp] at hst
        have HN2 : Hid (NI G i (nst U i (u % 1000) p)) := hst
        have hX0 := HN.out.pos i
        have hX1 := term_le HN.out.pos (i + 1) i (by omega)
        have hX2 := HN.out.tot
        have s0 : wr.cell? ⟨bu, i, none⟩ = some (.int .i64 (at0 U i)) := by rw [hr.cell]; exact ci_get U i (by omega)
        have f0 := hr.frozen i
        obtain ⟨X, hX⟩ : ∃ X, X = at0 U i := ⟨_, rfl⟩
        have hrow := nst_row (i := i) (r := u % 1000) (p := p) hr
        rw [← hX] at s0 hrow hX0 hX1
        have m0 := Int.emod_nonneg u (b := 1000) (by decide)
        have m1 := Int.emod_lt_of_pos u (b := 1000) (by decide)
        obtain ⟨r, hrr⟩ : ∃ r, r = u % 1000 := ⟨_, rfl⟩
        rw [← hrr] at HN2 hrow m0 m1
        have t1 : u.tmod 1000 = r := by rw [Int.tmod_eq_emod_of_nonneg hu.1, ← hrr]
        have t2 : u % 1000 = r := hrr.symm
        have e1 : IntKind.i64.wrap (X + r) = X + r := by rw [IntKind.wrap_i64]; omega
        have HR1 : Hid (RowAt (wr.setCell ⟨bu, i, none⟩ (.int .i64 (X + r))) bu 3 (ci (U.set i (X + r)))) := hrow.1
        have HR2 : Hid (0 ≤ p → ∀ W, RowAt W bu 3 (ci (U.set i (X + r))) → RowAt (W.setCell ⟨bu, p.toNat, none⟩ (.int .i64 (at0 U p.toNat + (X + r)))) bu 3 (ci (nst U i r p))) := hrow.2.1
        have HR3 : Hid (¬ 0 ≤ p → U.set i (X + r) = nst U i r p) := hrow.2.2
        have HX : Hid (X + r ≤ 64000 ∧ 0 ≤ X + r ∧ ∀ j, j < i → 0 ≤ at0 U j ∧ at0 U j ≤ 64000) := by
          refine ⟨by omega, by omega, fun j hj => ⟨HN.out.pos j, ?_⟩⟩
          have := term_le HN.out.pos (i + 1) j (by omega)
          omega
        clear hst hue hX hrow hp hX1 hX2 hrr HN
        go_wp2
        go_region
        have hB5 : Below w.heap.size w (wr.setCell ⟨bu, i, none⟩ (.int .i64 (X + r))).drew := below_drawn (hb.setCell (p := ⟨bu, i, none⟩) hbu _) 1
        have hr5 : RowAt (wr.setCell ⟨bu, i, none⟩ (.int .i64 (X + r))).drew bu 3 (ci (U.set i (X + r))) := HR1.out.drewN 1
        obtain ⟨w5, hw5⟩ : ∃ w5, w5 = (wr.setCell ⟨bu, i, none⟩ (.int .i64 (X + r))).drew := ⟨_, rfl⟩
        rw [← hw5] at hB5 hr5 ⊢
        obtain ⟨b', off', e', g0, -⟩ := (HG.out _ hB5).get hil
        injection e' with e'
        injection e' with e1' e2'
        subst e1' e2'
        have hpp : p = par G i := by
          have := (HG.out _ hb).get hil
          obtain ⟨b', off', e', g0', -⟩ := this
          injection e' with e'
          injection e' with e1' e2'
          subst e1' e2'
          rw [c0] at g0'
          injection g0' with g0'
          injection g0'
        rw [← hpp] at g0
        clear hpp hw5 hr hb c0 c1 s0 f0 HR1
        by_cases hp0 : 0 ≤ p
        · obtain ⟨q, rfl⟩ := Int.eq_ofNat_of_zero_le hp0
          have hd : decide ((0 : Int) ≤ (q : Int)) = true := by simp
          have hqi : q < i := by omega
          have hql : q < G.length := by omega
          have s1 : w5.cell? ⟨bu, i, none⟩ = some (.int .i64 (X + r)) := by
            rw [hr5.cell, ci_get _ _ (by rw [List.length_set]; omega), at0_set (by omega), if_pos rfl]
          obtain ⟨Y, hY⟩ : ∃ Y, Y = at0 U q := ⟨_, rfl⟩
          have s2 : w5.cell? ⟨bu, q, none⟩ = some (.int .i64 Y) := by
            rw [hr5.cell, ci_get _ _ (by rw [List.length_set]; omega), at0_set (by omega), if_neg (by omega), hY]
          have f2 := hr5.frozen q
          obtain ⟨z1, z2, z3⟩ := HX.out
          have hYb := z3 q hqi
          rw [← hY] at hYb
          have e3 : IntKind.i64.wrap (Y + (X + r)) = Y + (X + r) := by rw [IntKind.wrap_i64]; omega
          have hrow := HR2.out hp0 w5 hr5
          rw [Int.toNat_natCast, ← hY] at hrow
          have HR9 : Hid (RowAt (w5.setCell ⟨bu, q, none⟩ (.int .i64 (Y + (X + r)))) bu 3 (ci (nst U i r q))) := hrow
          have HB9 : Hid (Below w.heap.size w w5) := hB5
          clear hrow hY hYb HR2 HR3 HX hr5 hB5 z1 z2 z3 hpl
          go_wp2
          go_region
          go_wp2
          exact ⟨⟨i, _, by omega, by go_num, HN2, HR9.out.drewN 1, below_drawn (HB9.out.setCell (p := ⟨bu, q, none⟩) hbu _) 1⟩, by simp only [intOf]; omega⟩
        · have hd : decide (0 ≤ p) = false := by simpa using hp0
          have h3 := HR3.out (by omega)
          rw [h3] at hr5
          have HR9 : Hid (RowAt w5 bu 3 (ci (nst U i r p))) := hr5
          clear HR2 HR3 HX h3 hr5 hp0
          go_wp2
          exact ⟨⟨i, _, by omega, by go_num, HN2, HR9.out, hB5⟩, by simp only [intOf]; omega⟩
      | zero =>
        have e0 : (((0 : Nat) : Int) - 1) = -1 := rfl
        rw [e0]
        have hUl := HN.out.len
        obtain ⟨EA, hEA, hEAl, hEA0⟩ := none_a HVD.out hT
        obtain ⟨EB, hEB, hEBl, hEB0⟩ := none_b HVD.out hT HN.out
        have HUl : Hid (U.length = G.length) := hUl
        have H11 : Hid (∀ w' a' c', Nds w' a' c' (mmL G) → Calls Try.prog 11 #[.slice a' G.length c', .int .i64 T] w' fun e w'' => ∃ a' c', e = .returned (.slice a' G.length c') ∧ Ints w'' a' EA ∧ Below w'.heap.size w' w'') := by
          intro w' a' c' h
          have := peff a' c' (mmL G) T w' h (by rw [mmL_len]; omega)
          rw [hEA, hEAl, mmL_len] at this
          exact this
        have H11b : Hid (∀ w' a' c', Nds w' a' c' (nnL G U) → Calls Try.prog 11 #[.slice a' G.length c', .int .i64 T] w' fun e w'' => ∃ a' c', e = .returned (.slice a' G.length c') ∧ Ints w'' a' EB ∧ Below w'.heap.size w' w'') := by
          intro w' a' c' h
          have := peff a' c' (nnL G U) T w' h (by rw [nnL_len]; omega)
          rw [hEB, hEBl, nnL_len] at this
          exact this
        have H17 : Hid (∀ w' a' c' ae ce i, Nds w' a' c' (nnL G U) → Ints w' ae EB → Calls Try.prog 17 #[.slice a' G.length c', .slice ae G.length ce, .int .i64 T, .int .i64 i] w' fun e w'' => e = .returned (.bool (held (nnL G U) EB T i)) ∧ Below w'.heap.size w' w'') := by
          intro w' a' c' ae ce i h h2
          have := pHeld a' c' (nnL G U) ae ce EB T i w' h h2 (by rw [nnL_len]; omega) (by omega)
          rw [hEBl, nnL_len] at this
          exact this
        have HA0 : Hid (∀ W ae i, Ints W ae EA → i < G.length → ∃ be oe, ae = some ⟨be, oe, none⟩ ∧ W.cell? ⟨be, oe + i, none⟩ = some (.int .i64 0)) := by
          intro W ae i h hi
          obtain ⟨be, oe, h1, h2⟩ := h.at' i (by omega)
          have h3 := hEA0 i hi
          unfold at0 at h3
          rw [h3] at h2
          exact ⟨be, oe, h1, h2⟩
        have HB0 : Hid (∀ W ae i, Ints W ae EB → i < G.length → ∃ be oe, ae = some ⟨be, oe, none⟩ ∧ W.cell? ⟨be, oe + i, none⟩ = some (.int .i64 (at0 EB i))) := by
          intro W ae i h hi
          exact h.at' i (by omega)
        have HEB : Hid (∀ i : Nat, i < G.length → (i ≠ T → at0 EB i = at0 U i → 0 < at0 U i → held (nnL G U) EB T i = true) ∧ (par G i = T → at0 EB i = at0 U i)) := hEB0
        have HMG : Hid (∀ j, j < G.length → flatN ((mmL G).take j) ++ [.int .i64 (par G j), .int .i64 (use G j), .int .i64 0] = flatN ((mmL G).take (j + 1))) := by
          intro j hj
          have := flatN_take (mmL G) j (by rw [mmL_len]; exact hj)
          rw [mmL_get hj] at this
          exact this
        have HNG : Hid (∀ j, j < G.length → flatN ((nnL G U).take j) ++ [.int .i64 (par G j), .int .i64 (at0 U j), .int .i64 (at0 U j)] = flatN ((nnL G U).take (j + 1))) := by
          intro j hj
          have := flatN_take (nnL G U) j (by rw [nnL_len]; exact hj)
          rw [nnL_get hj] at this
          exact this
        have hT0 : Two w bu U wr (.slice none 0 0) (.slice none 0 0) 0 0 (flatN ((mmL G).take 0)) (flatN ((nnL G U).take 0)) :=
          ⟨World.ownsRow_nil _ _ _ _, World.ownsRow_nil _ _ _ _, fun k h => (by cases h), hr, hb⟩
        clear hEA hEAl hEA0 hEB hEBl hEB0 hUl HN hr hb hk
        go_wp2
        go_loopw [6, 7, 10] (fun s6 s7 s10 wx => ∃ j : Nat, j ≤ G.length ∧ s10 = .int .i64 j ∧ Two w bu U wx s6 s7 j j (flatN ((mmL G).take j)) (flatN ((nnL G U).take j))) (fun _ _ s10 _ => G.length - (intOf s10).toNat)
        case atStart => exact ⟨0, by omega, rfl, hT0⟩
        case round =>
          clear hT0
          obtain ⟨j, hj, rfl, hTw⟩ := hrel
          by_cases hjl : j < G.length
          · obtain ⟨b, off, rfl, c0, c1, -⟩ := (HG.out _ hTw.b).get hjl
            obtain ⟨am, cm, rfl⟩ := own_form hTw.r1
            obtain ⟨an, cn, rfl⟩ := own_form hTw.r2
            have hmg := HMG.out j hjl
            have hng := HNG.out j hjl
            obtain ⟨p, hp⟩ : ∃ p, p = par G j := ⟨_, rfl⟩
            obtain ⟨u, hu⟩ : ∃ u, u = use G j := ⟨_, rfl⟩
            obtain ⟨x, hx⟩ : ∃ x, x = at0 U j := ⟨_, rfl⟩
            rw [← hp] at c0 hmg hng
            rw [← hu] at c1 hmg
            rw [← hx] at hng
            have hws : w.heap.size ≤ wr.heap.size := hTw.b.size
            have HOWN : Hid (∀ ob, (wr.alloc ob).drew.ownsRow w.heap.size 38 3 (.slice am j cm) j (flatN ((mmL G).take j))) := fun ob => hTw.r1.alloc ob
            have HNEW : Hid (∀ i v, ([.int .i64 p, .int .i64 u, .int .i64 0] : List Value)[i]? = some v → (wr.alloc (.cells #[.int .i64 p, .int .i64 u, .int .i64 0] 38)).drew.cell? ((⟨wr.heap.size, 0, none⟩ : Addr).add i) = some v) := by
              intro i v hv
              have hnew := (RowAt.new wr #[.int .i64 p, .int .i64 u, .int .i64 0] 38).cell i
              rw [Addr.add_mid, Nat.zero_add]
              exact hnew.trans hv
            have HEND : Hid (∀ a' c' w', w'.ownsRow w.heap.size 38 3 (.slice a' (j + 1) c') (j + 1) (flatN ((mmL G).take j) ++ [.int .i64 p, .int .i64 u, .int .i64 0]) → (wr.alloc (.cells #[.int .i64 p, .int .i64 u, .int .i64 0] 38)).drew.grownBy w' (Value.slice am j cm).ownBlock →
                ((Value.slice a' (j + 1) c').ownBlock = (Value.slice am j cm).ownBlock ∨ (Value.slice a' (j + 1) c').ownBlock = some (wr.alloc (.cells #[.int .i64 p, .int .i64 u, .int .i64 0] 38)).drew.heap.size) →
                Two w bu U w' (.slice a' (j + 1) c') (.slice an j cn) (j + 1) j (flatN ((mmL G).take (j + 1))) (flatN ((nnL G U).take j))) := by
              intro a' c' w' ho hg hat
              rw [hmg] at ho
              exact hTw.app _ ho hg hat
            have HCE : Hid (∀ w', Below w.heap.size w w' → w'.cell? ⟨b, off + j * 3, none⟩ = some (.int .i64 p)) := by
              intro w' hb'
              obtain ⟨b', off', e', g0, -⟩ := (HG.out _ hb').get hjl
              injection e' with e'
              injection e' with e1' e2'
              subst e1' e2'
              rw [hp]
              exact g0
            have HXE : Hid (∀ W, RowAt W bu 3 (ci U) → W.cell? ⟨bu, j, none⟩ = some (.int .i64 x)) := by
              intro W hW
              rw [hW.cell, ci_get U j (by rw [HUl.out]; exact hjl), hx]
            have HNG2 : Hid (flatN ((nnL G U).take j) ++ [.int .i64 p, .int .i64 x, .int .i64 x] = flatN ((nnL G U).take (j + 1))) := hng
            clear hp hu hx hmg hng hTw
            go_upto_region 18 with fail
            go_cut [6] (fun s6 wx => ∃ a' c', s6 = .slice a' (j + 1) c' ∧ Two w bu U wx (.slice a' (j + 1) c') (.slice an j cn) (j + 1) j (flatN ((mmL G).take (j + 1))) (flatN ((nnL G U).take j)))
            case first =>
              go_region_law (refine step_append_at rfl (.tmp 94) (.tmp 106) 22 rfl w.heap.size 38 _ 3 24 Try.underlying22 info38 rfl (by decide) (.slice am j cm) j _ rfl (HOWN.out _) ⟨wr.heap.size, 0, none⟩ 1 1 [.int .i64 p, .int .i64 u, .int .i64 0] rfl rfl HNEW.out (by simp [Value.oneCell']) (by unfold maxLen; omega) (by omega) (by simp; omega) ?_; intro a' c' w' ho hg hat; have g1 := HEND.out a' c' w' ho hg hat; clear ho hg hat)
              all_goals
                go_wp2_with fail
                go_meet
                exact ⟨_, _, rfl, g1⟩
            case rest =>
              obtain ⟨a2, c2, rfl, hT2⟩ := hcut
              have k0 := HCE.out _ hT2.b
              have k1 := HXE.out _ hT2.u
              have hws2 : w.heap.size ≤ wc.heap.size := hT2.b.size
              have HOWN2 : Hid (∀ ob, (wc.alloc ob).drew.ownsRow w.heap.size 38 3 (.slice an j cn) j (flatN ((nnL G U).take j))) := fun ob => hT2.r2.alloc ob
              have HNEW2 : Hid (∀ i v, ([.int .i64 p, .int .i64 x, .int .i64 x] : List Value)[i]? = some v → (wc.alloc (.cells #[.int .i64 p, .int .i64 x, .int .i64 x] 38)).drew.cell? ((⟨wc.heap.size, 0, none⟩ : Addr).add i) = some v) := by
                intro i v hv
                have hnew := (RowAt.new wc #[.int .i64 p, .int .i64 x, .int .i64 x] 38).cell i
                rw [Addr.add_mid, Nat.zero_add]
                exact hnew.trans hv
              have HEND2 : Hid (∀ a' c' w', w'.ownsRow w.heap.size 38 3 (.slice a' (j + 1) c') (j + 1) (flatN ((nnL G U).take j) ++ [.int .i64 p, .int .i64 x, .int .i64 x]) → (wc.alloc (.cells #[.int .i64 p, .int .i64 x, .int .i64 x] 38)).drew.grownBy w' (Value.slice an j cn).ownBlock →
                  ((Value.slice a' (j + 1) c').ownBlock = (Value.slice an j cn).ownBlock ∨ (Value.slice a' (j + 1) c').ownBlock = some (wc.alloc (.cells #[.int .i64 p, .int .i64 x, .int .i64 x] 38)).drew.heap.size) →
                  Two w bu U w' (.slice a2 (j + 1) c2) (.slice a' (j + 1) c') (j + 1) (j + 1) (flatN ((mmL G).take (j + 1))) (flatN ((nnL G U).take (j + 1)))) := by
                intro a' c' w' ho hg hat
                rw [HNG2.out] at ho
                exact (hT2.swap.app _ ho hg hat).swap
              clear hT2 HOWN HNEW HEND HCE HXE HNG2 c0 c1 hws
              go_wp2
              go_region_law (refine step_append_at rfl (.tmp 108) (.tmp 123) 22 rfl w.heap.size 38 _ 3 24 Try.underlying22 info38 rfl (by decide) (.slice an j cn) j _ rfl (HOWN2.out _) ⟨wc.heap.size, 0, none⟩ 1 1 [.int .i64 p, .int .i64 x, .int .i64 x] rfl rfl HNEW2.out (by simp [Value.oneCell']) (by unfold maxLen; omega) (by omega) (by simp; omega) ?_; intro a' c' w' ho hg hat; have g1 := HEND2.out a' c' w' ho hg hat; clear ho hg hat)
              all_goals
                go_wp2
                exact ⟨⟨j + 1, by omega, by go_num, g1⟩, by simp [intOf]; omega⟩
          · have hlenj : j = G.length := by omega
            subst hlenj
            have hdn : decide (G.length < G.length) = false := by simp
            have em : (mmL G).take G.length = mmL G := by rw [← mmL_len G, List.take_length]
            have en : (nnL G U).take G.length = nnL G U := by rw [← nnL_len G U, List.take_length]
            have h1 := hTw.r1
            have h2 := hTw.r2
            rw [em] at h1
            rw [en] at h2
            have h1' : wr.ownsRow w.heap.size 38 3 u6 (mmL G).length (flatN (mmL G)) := by rw [mmL_len]; exact h1
            have h2' : wr.ownsRow w.heap.size 38 3 u7 (nnL G U).length (flatN (nnL G U)) := by rw [nnL_len]; exact h2
            obtain ⟨am, cm, ev1, hnm, -⟩ := own_nds h1'
            obtain ⟨an, cn, ev2, hnn, -⟩ := own_nds h2'
            rw [mmL_len] at ev1
            rw [nnL_len] at ev2
            have hur := hTw.u
            have hbr := hTw.b
            clear h1 h2 h1' h2' em en hTw
            subst ev1 ev2
            go_wp2_with fail
            refine (H11.out _ _ _ hnm).mono ?_
            rintro e w5 ⟨ea, ca, rfl, hi5, hb5⟩
            have hnn5 := hnn.later hb5
            have hu5 := hur.later hb5
            have hB5 := bel_trans hbr hb5
            clear hnm hnn hur hbr hb5
            go_wp2_with fail
            refine (H11b.out _ _ _ hnn5).mono ?_
            rintro e w6 ⟨eb, cb, rfl, hj6, hb6⟩
            have hi6 := hi5.later hb6
            have hn6 := hnn5.later hb6
            have hu6 := hu5.later hb6
            have hB6 := bel_trans hB5 hb6
            clear hi5 hnn5 hu5 hB5 hb6 H11 H11b
            go_wp2
            have HALL : Hid (Ints w6 ea EA ∧ Ints w6 eb EB ∧ Nds w6 an cn (nnL G U) ∧ RowAt w6 bu 3 (ci U) ∧ Below w.heap.size w w6) := ⟨hi6, hj6, hn6, hu6, hB6⟩
            clear hi6 hj6 hn6 hu6 hB6
            go_loopw [13] (fun s13 wx => ∃ j : Nat, j ≤ G.length ∧ s13 = .int .i64 j ∧ Hid (Ints wx ea EA ∧ Ints wx eb EB ∧ Nds wx an cn (nnL G U) ∧ RowAt wx bu 3 (ci U) ∧ Below w.heap.size w wx)) (fun s13 _ => G.length - (intOf s13).toNat)
            case atStart => exact ⟨0, by omega, rfl, HALL⟩
            case round =>
              clear HALL
              obtain ⟨j, hj, rfl, HA⟩ := hrel
              by_cases hjl : j < G.length
              · obtain ⟨ba, oa, ea', k0⟩ := HA0.out _ _ j HA.out.1 hjl
                subst ea'
                obtain ⟨V, hV⟩ : ∃ V, V = held (nnL G U) EB T j := ⟨_, rfl⟩
                have HC : Hid (Calls Try.prog 17 #[.slice an G.length cn, .slice eb G.length cb, .int .i64 T, .int .i64 j] wr fun e w'' => e = .returned (.bool V) ∧ Below wr.heap.size wr w'') := by
                  have := H17.out wr an cn eb cb j HA.out.2.2.1 HA.out.2.1
                  rw [← hV] at this
                  exact this
                obtain ⟨hin0, hpar0⟩ := HEB.out j hjl
                rw [← hV] at hin0
                have hAL : ∀ w', Below wr.heap.size wr w' → Hid (Ints w' (some ⟨ba, oa, none⟩) EA ∧ Ints w' eb EB ∧ Nds w' an cn (nnL G U) ∧ RowAt w' bu 3 (ci U) ∧ Below w.heap.size w w') := fun w' hb' =>
                  ⟨HA.out.1.later hb', HA.out.2.1.later hb', HA.out.2.2.1.later hb', HA.out.2.2.2.1.later hb', bel_trans HA.out.2.2.2.2 hb'⟩
                have HAL : Hid (∀ w', Below wr.heap.size wr w' → Hid (Ints w' (some ⟨ba, oa, none⟩) EA ∧ Ints w' eb EB ∧ Nds w' an cn (nnL G U) ∧ RowAt w' bu 3 (ci U) ∧ Below w.heap.size w w')) := hAL
                obtain ⟨X, hX⟩ : ∃ X, X = at0 EB j := ⟨_, rfl⟩
                obtain ⟨Y, hY⟩ : ∃ Y, Y = at0 U j := ⟨_, rfl⟩
                obtain ⟨P, hP⟩ : ∃ P, P = par G j := ⟨_, rfl⟩
                rw [← hX, ← hY] at hin0 hpar0
                rw [← hP] at hpar0
                have hin : (((j : Int) != T) = false) ∨ (((j : Int) != T) = true ∧ (X == Y) = false) ∨ (((j : Int) != T) = true ∧ (X == Y) = true ∧ decide (0 < Y) = false) ∨ (((j : Int) != T) = true ∧ (X == Y) = true ∧ decide (0 < Y) = true ∧ V = true) := by
                  by_cases h1 : j = T
                  · exact .inl (by simp [h1])
                  · have d1 : ((j : Int) != T) = true := by simp; omega
                    by_cases h2 : X = Y
                    · have d2 : (X == Y) = true := by simpa using h2
                      by_cases h3 : 0 < Y
                      · exact .inr (.inr (.inr ⟨d1, d2, by simpa using h3, hin0 h1 h2 h3⟩))
                      · exact .inr (.inr (.inl ⟨d1, d2, by simpa using h3⟩))
                    · exact .inr (.inl ⟨d1, by simpa using h2⟩)
                have hpar : ((P == (T : Int)) = false) ∨ ((P == (T : Int)) = true ∧ (X != Y) = false) := by
                  by_cases h1 : P = T
                  · exact .inr ⟨by simpa using h1, by simpa using hpar0 h1⟩
                  · exact .inl (by simpa using h1)
                have HPX : Hid (∀ w', Hid (Ints w' (some ⟨ba, oa, none⟩) EA ∧ Ints w' eb EB ∧ Nds w' an cn (nnL G U) ∧ RowAt w' bu 3 (ci U) ∧ Below w.heap.size w w') →
                    (∃ b1 o1 b2 o2, eb = some ⟨b1, o1, none⟩ ∧ a = some ⟨b2, o2, none⟩ ∧ w'.cell? ⟨b1, o1 + j, none⟩ = some (.int .i64 X) ∧ w'.cell? ⟨b2, o2 + j * 3, none⟩ = some (.int .i64 P) ∧ w'.cell? ⟨bu, j, none⟩ = some (.int .i64 Y))) := by
                  intro w' h
                  obtain ⟨b1, o1, h1, h2⟩ := HB0.out _ _ j h.out.2.1 hjl
                  obtain ⟨b2, o2, h3, h4, -⟩ := (HG.out _ h.out.2.2.2.2).get hjl
                  refine ⟨b1, o1, b2, o2, h1, h3, by rw [hX]; exact h2, by rw [hP]; exact h4, ?_⟩
                  rw [h.out.2.2.2.1.cell, ci_get U j (by rw [HUl.out]; exact hjl), hY]
                have HIN : Hid ((((j : Int) != T) = false) ∨ (((j : Int) != T) = true ∧ (X == Y) = false) ∨ (((j : Int) != T) = true ∧ (X == Y) = true ∧ decide (0 < Y) = false) ∨ (((j : Int) != T) = true ∧ (X == Y) = true ∧ decide (0 < Y) = true ∧ V = true)) := hin
                have HPR : Hid (((P == (T : Int)) = false) ∨ ((P == (T : Int)) = true ∧ (X != Y) = false)) := hpar
                clear hV hin0 hpar0 hAL hX hY hP hin hpar H17 HA0 HB0 HEB HMG HNG HA
                go_wp2_with fail
                refine HC.out.mono ?_
                rintro e w7 ⟨rfl, hb7⟩
                have HF := HAL.out _ hb7
                obtain ⟨b1, o1, b2, o2, rfl, rfl, k1, k2, k3⟩ := HPX.out _ HF
                clear HPX HAL HC hb7
                rcases HIN.out with q1 | ⟨q1, q2⟩ | ⟨q1, q2, q3⟩ | ⟨q1, q2, q3, rfl⟩ <;> rcases HPR.out with q4 | ⟨q4, q5⟩
                all_goals
                  clear HIN HPR
                  go_wp2
                  go_quiet (fail)
                  go_wp2
                  go_quiet (fail)
                  go_wp2
                  go_roundw
                  case rel => exact ⟨j + 1, by omega, by go_num, ⟨⟨HF.out.1.at'⟩, ⟨HF.out.2.1.at'⟩, ⟨HF.out.2.2.1.le, HF.out.2.2.1.nil, HF.out.2.2.1.at'⟩, HF.out.2.2.2.1.drewN _, below_drawn HF.out.2.2.2.2 _⟩⟩
                  case measure => simp [intOf]; omega
              · have hlenj2 : j = G.length := by omega
                subst hlenj2
                go_wp2
                go_ret
                exact ⟨rfl, HA.out.2.2.2.2⟩
end Go.Proofs.Ytimgpikgkbjliaa
