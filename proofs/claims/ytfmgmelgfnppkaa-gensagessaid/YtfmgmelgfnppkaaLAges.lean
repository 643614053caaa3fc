/-
  The law GensAges walked.
-/
import Derived.Test.YtfmgmelgfnppkaaRow
namespace Go.Proofs.Ytfmgmelgfnppkaa
open Go.RowKit

/-- Aged so many times. -/
def ageK (L : List En) (g : Int) : Nat → List En
  | 0 => L
  | j + 1 => ageL (ageK L g j) g
theorem ageK_len (L : List En) (g : Int) (j : Nat) : (ageK L g j).length = L.length := by
  induction j with
  | zero => rfl
  | succ j ih => simp [ageK, ageL, turn_len, ih]
theorem ageK_ok {L : List En} (h : Ok L) (g : Int) (j : Nat) : Ok (ageK L g j) := by
  induction j with
  | zero => exact h
  | succ j ih => exact ageL_ok ih g
theorem age3_old {L : List En} (h : Ok L) (g i : Int) : oldN (ageK L g 3) i = if grpN L i = g ∧ 0 ≤ grpN L i then 3 else oldN L i := by
  have h1 : lk (ageK L g 3) i = (lk L i).map fun x => age g (age g (age g x)) := by
    simp only [ageK]
    rw [ageL_lk, ageL_lk, ageL_lk]
    cases lk L i <;> rfl
  cases hl : lk L i with
  | none =>
    rw [hl] at h1
    rw [oldN_none h1, oldN_none hl, grpN_none hl, if_neg (by omega)]
  | some x =>
    rw [hl] at h1
    obtain ⟨hr, -⟩ := h.lk hl
    have h0 := hr.2.1.1
    rw [oldN_some h1, oldN_some hl, grpN_some hl, age3 hr]
    by_cases hg : x.g = g
    · rw [if_pos hg, if_pos ⟨hg, h0⟩]
    · rw [if_neg hg, if_neg (fun h => hg h.1)]

theorem age_same {L : List En} {g : Int} (h : ageN L g = 0) : ageL L g = L := by
  unfold ageN at h
  rw [List.countP_eq_zero] at h
  unfold ageL turn
  conv => rhs; rw [← List.map_id L]
  exact List.map_congr_left fun x hx => by simp [age, h x hx]

theorem ages_out (a : Option Addr) (cap n : Nat) (g o i : Int) (w : World)
    (h : decide ((80 : Int) < (n : Int)) = true ∨ (decide ((80 : Int) < (n : Int)) = false ∧ decide (o < 0) = true) ∨ (decide ((80 : Int) < (n : Int)) = false ∧ decide (o < 0) = false ∧ decide (16777216 < o) = true) ∨
      (decide ((80 : Int) < (n : Int)) = false ∧ decide (o < 0) = false ∧ decide (16777216 < o) = false ∧ (g == o) = true)) :
    Calls Try.prog 5 #[.slice a n cap, .int .i64 g, .int .i64 o, .int .i64 i] w fun e w' => e = .returned (.bool true) ∧ Below w.heap.size w w' := by
  rcases h with q1 | ⟨q1, q2⟩ | ⟨q1, q2, q3⟩ | ⟨q1, q2, q3, q4⟩
  all_goals
    go_enter Try.func5, Try.ntmps5
    go_wp2_with (go_at_call 9; refine (works_any _).mono ?_; rintro e w1 ⟨rfl, hb⟩)
    go_ret
    exact ⟨rfl, hb⟩

set_option maxRecDepth 100000 in
set_option maxHeartbeats 8000000 in
theorem ages_in (a : Option Addr) (cap : Nat) (l : List Ac) (g o i : Int) (w : World) (hl : l.length ≤ 80) (hc : ActsAt w a l) (hi : (Lit.int .i64 i).wf = true) (ho : okI o = true) (hgo : g ≠ o) :
    Calls Try.prog 5 #[.slice a l.length cap, .int .i64 g, .int .i64 o, .int .i64 i] w fun e w' => e = .returned (.bool true) ∧ Below w.heap.size w w' := by
  have ho1 := okI_iff.1 ho
  have d1 : decide ((80 : Int) < (l.length : Int)) = false := by simp; omega
  have d2 : decide (o < 0) = false := by simp; omega
  have d3 : decide (16777216 < o) = false := by simp; omega
  have d6 : (g == o) = false := by simpa using hgo
  have HM : Hid (may g o = true) := by show _ = _; simp [may, ho, hgo]
  clear ho1 ho
  go_enter Try.func5, Try.ntmps5
  go_wp2_with fail
  refine (works_any _).mono ?_
  rintro e w1 ⟨rfl, hb1⟩
  go_wp2_with fail
  refine (newO hb1).mono ?_
  rintro e w2 ⟨x, m, rfl, h2, -⟩
  clear hb1 d1
  go_wp2_with fail
  go_loopw [11] (fun s11 wr => ∃ j : Nat, j ≤ l.length ∧ s11 = .int .i64 j ∧ Ow w wr x m (doN l j)) (fun s11 _ => l.length - (intOf s11).toNat)
  case atStart => exact ⟨0, by omega, rfl, h2⟩
  case round =>
    clear h2
    obtain ⟨j, hj, rfl, hT⟩ := hrel
    have hdl := doN_len l j hj
    by_cases hlt : j < l.length
    · obtain ⟨b, off, rfl, k0, k1, k2, k3, hw⟩ := (hc.below hT.bel).at hlt
      have hD := doN_succ l j hlt
      obtain ⟨r, hr⟩ : ∃ r, r = l[j] := ⟨_, rfl⟩
      rw [← hr] at k0 k1 k2 k3 hw hD
      have d0 : decide ((j : Int) < (l.length : Int)) = true := by simp; omega
      have C := hid (doO hT (by omega) r hw)
      have HD : Hid (doN l (j + 1) = doA (doN l j) r) := hD
      clear hr hw hD hT
      go_wp2_with fail
      refine C.out.mono ?_
      rintro e w3 ⟨rfl, h3, -⟩
      rw [← HD.out] at h3
      clear C
      go_wp2_with fail
      exact ⟨⟨j + 1, by omega, by go_num, h3⟩, by simp [intOf]; omega⟩
    · obtain rfl : j = l.length := by omega
      have d0 : decide ((l.length : Int) < (l.length : Int)) = false := by simp
      obtain ⟨L, hL⟩ : ∃ L, L = doN l l.length := ⟨_, rfl⟩
      rw [← hL] at hT hdl
      have hLl : L.length < 900000 := by omega
      have HOK : Hid (Ok L) := hT.ls.ok
      have HLL : Hid (L.length ≤ 80) := (by show _ ≤ _; omega)
      clear hL hdl hlt hc hLl
      have C2 := hid (oldO hT hi)
      clear hT
      obtain ⟨wa, hwa⟩ : ∃ v, v = oldN L i := ⟨_, rfl⟩
      rw [← hwa] at C2
      have HWA : Hid (wa = oldN L i) := hwa
      clear hwa
      go_wp2_with fail
      refine C2.out.mono ?_
      rintro e w4 ⟨rfl, h4, -⟩
      have C3 := hid (groupO h4 hi)
      clear h4 C2
      obtain ⟨gg, hg⟩ : ∃ v, v = grpN L i := ⟨_, rfl⟩
      rw [← hg] at C3
      have HG : Hid (gg = grpN L i) := hg
      clear hg
      go_wp2_with fail
      refine C3.out.mono ?_
      rintro e w5 ⟨rfl, h5, -⟩
      clear C3
      go_wp2_with fail
      go_loopw [14] (fun s14 wr => ∃ q : Nat, q ≤ 3 ∧ s14 = .int .i64 q ∧ Ow w wr x m (ageK L g q)) (fun s14 _ => 3 - (intOf s14).toNat)
      case atStart => exact ⟨0, by omega, rfl, h5⟩
      case round =>
        clear h5
        obtain ⟨q, hq, rfl, hT⟩ := hrel
        have hkl := ageK_len L g q
        by_cases hq3 : q < 3
        · have dq : decide ((q : Int) < 3) = true := by simp; omega
          have C := hid (ageO hT (by have := HLL.out; omega) g)
          clear hT hkl
          go_wp2_with fail
          refine C.out.mono ?_
          rintro e w3 ⟨rfl, h3, -⟩
          clear C
          go_wp2_with fail
          exact ⟨⟨q + 1, by omega, by go_num, h3⟩, by simp [intOf]; omega⟩
        · obtain rfl : q = 3 := by omega
          have C6 := hid (oldO hT hi)
          have HK3 : Hid ((ageK L g 3).length = L.length) := hkl
          have HO3 : Hid (Ok (ageK L g 3)) := hT.ls.ok
          clear hT hkl
          obtain ⟨nw, hnw⟩ : ∃ v, v = oldN (ageK L g 3) i := ⟨_, rfl⟩
          rw [← hnw] at C6
          have HNW : Hid (nw = oldN (ageK L g 3) i) := hnw
          have hway : Hid ((gg == g) = true ∧ (gg != g) = false ∧ decide (0 ≤ gg) = true ∧ (nw != 3) = false ∨ (gg == g) = true ∧ (gg != g) = false ∧ decide (0 ≤ gg) = false ∨ (gg == g) = false ∧ (gg != g) = true ∧ (nw != wa) = false) := by
            show _ ∨ _
            rw [hnw, age3_old HOK.out, ← HG.out, ← HWA.out]
            by_cases h1 : gg = g
            · by_cases h2 : 0 ≤ gg
              · left; rw [if_pos ⟨h1, h2⟩]; exact ⟨by simpa using h1, by simp [h1], by simpa using h2, by simp⟩
              · right; left; exact ⟨by simpa using h1, by simp [h1], by simpa using h2⟩
            · right; right; rw [if_neg (fun h => h1 h.1)]; exact ⟨by simpa using h1, by simpa using h1, by simp⟩
          clear hnw
          go_wp2_with fail
          refine C6.out.mono ?_
          rintro e w6 ⟨rfl, h6, -⟩
          have C7 := hid (ageO h6 (by have := HLL.out; have := HK3.out; omega) g)
          have e7 : ageN (ageK L g 3) g = 0 := ageN_three HOK.out g
          rw [e7] at C7
          rw [age_same e7] at C7
          clear h6 C6 e7 HO3
          obtain ⟨L3, hL3⟩ : ∃ L3, L3 = ageK L g 3 := ⟨_, rfl⟩
          rw [← hL3] at C7 HNW HK3
          have hl3 : L3.length ≤ 80 := by have := HLL.out; have := HK3.out; omega
          clear hL3
          go_wp2_with fail
          refine C7.out.mono ?_
          rintro e w7 ⟨rfl, h7, -⟩
          have C8 := hid (countO h7 (by omega) g)
          obtain ⟨n1, hn1⟩ : ∃ v, v = cntL L3 g := ⟨_, rfl⟩
          rw [← hn1] at C8
          have HN1 : Hid (n1 = cntL L3 g) := hn1
          have hn1l : n1 ≤ 80 := by have := cnt_le L3 g; omega
          clear h7 C7 hn1
          have hw2 := hway.out
          clear hway
          have z0 : ((n1 : Int) == (n1 : Int)) = true := by simp
          have z1 : (nw == nw) = true := by simp
          rcases hw2 with ⟨q1, q2, q3, q4⟩ | ⟨q1, q2, q3⟩ | ⟨q1, q2, q3⟩
          all_goals
            go_wp2_with fail
            refine C8.out.mono ?_
            rintro e w8 ⟨rfl, h8, -⟩
            have C9 := hid (countO h8 (by omega) o)
            obtain ⟨n2, hn2⟩ : ∃ v, v = cntL L3 o := ⟨_, rfl⟩
            rw [← hn2] at C9
            have HN2 : Hid (n2 = cntL L3 o) := hn2
            have hn2l : n2 ≤ 80 := by have := cnt_le L3 o; omega
            clear h8 C8 hn2
            go_wp2_with fail
            refine C9.out.mono ?_
            rintro e w9 ⟨rfl, h9, -⟩
            have C10 := hid (moveO h9 (by omega) g o)
            have e10 : moveN L3 g o = n1 := by rw [HN1.out]; simp [moveN, HM.out]
            rw [e10] at C10
            have HL5 : Hid ((moveL L3 g o).length = L3.length) := moveL_len _ _ _
            clear h9 C9 e10
            go_wp2_with fail
            refine C10.out.mono ?_
            rintro e w10 ⟨rfl, h10, -⟩
            have C11 := hid (countO h10 (by have := HL5.out; omega) g)
            rw [cnt_from HM.out] at C11
            clear h10 C10
            go_wp2_with fail
            refine C11.out.mono ?_
            rintro e w11 ⟨rfl, h11, -⟩
            have C12 := hid (countO h11 (by have := HL5.out; omega) o)
            have e12 : ((cntL (moveL L3 g o) o : Nat) : Int) = (n2 : Int) + (n1 : Int) := by rw [cnt_to HM.out, HN1.out, HN2.out]; simp
            rw [e12] at C12
            have z2 : ((n2 : Int) + (n1 : Int) == (n2 : Int) + (n1 : Int)) = true := by simp
            clear h11 C11 e12
            go_wp2_with fail
            refine C12.out.mono ?_
            rintro e w12 ⟨rfl, h12, -⟩
            have C13 := hid (oldO h12 hi)
            rw [old_move, ← HNW.out] at C13
            clear h12 C12
            go_wp2_with fail
            refine C13.out.mono ?_
            rintro e w13 ⟨rfl, h13, -⟩
            have HB13 := hid h13.bel
            clear h13 C13
            go_wp2_with fail
            go_ret
            exact ⟨rfl, HB13.out⟩
theorem ages_walk (a : Option Addr) (cap : Nat) (l : List Ac) (g o i : Int) (w : World) (hc : ActsAt w a l) (hi : (Lit.int .i64 i).wf = true) :
    Calls Try.prog 5 #[.slice a l.length cap, .int .i64 g, .int .i64 o, .int .i64 i] w fun e w' => e = .returned (.bool true) ∧ Below w.heap.size w w' := by
  by_cases h : l.length ≤ 80 ∧ okI o = true ∧ g ≠ o
  · exact ages_in a cap l g o i w h.1 hc hi h.2.1 h.2.2
  · refine ages_out a cap _ g o i w ?_
    simp only [okI_iff] at h
    simp only [decide_eq_true_eq, decide_eq_false_iff_not, beq_iff_eq]
    omega
end Go.Proofs.Ytfmgmelgfnppkaa
