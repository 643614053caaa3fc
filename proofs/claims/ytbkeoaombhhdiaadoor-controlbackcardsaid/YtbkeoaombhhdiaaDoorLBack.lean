/-
  ControlBack, walked.
-/
import Derived.Test.YtbkeoaombhhdiaaDoorLStats
import Derived.Test.YtbkeoaombhhdiaaDoorLKilo
namespace Go.Proofs.YtbkeoaombhhdiaaDoor
open Go.RowKit

theorem isDg_minus (T : Bs) : isDgB (45 :: T) = false := by
  unfold isDgB
  simp [isD]
theorem shw_neg {n : Int} (h : n < 0) : shw n = 45 :: dg (-n).toNat := by
  unfold shw dgI
  rw [if_neg (by omega), if_pos h]
theorem last_cons (a : UInt8) {T : Bs} (h : T ≠ []) : (a :: T).getLast? = T.getLast? := by
  cases T with
  | nil => exact absurd rfl h
  | cons b T => simp
/-- A limit's text that is beyond is none. -/
theorem limN_far {n : Int} (h : n < 0 ∨ 1099511627776 < n) : nl (shw n) = shw n ∧ limN (shw n) = none := by
  rcases h with h | h
  · rw [shw_neg h]
    have hl := last_cons 45 (dg_ne (-n).toNat)
    have h10 : (45 :: dg (-n).toNat).getLast? ≠ some 10 := by rw [hl]; exact dg_last_not (by decide)
    have h75 : (45 :: dg (-n).toNat).getLast? ≠ some 75 := by rw [hl]; exact dg_last_not (by decide)
    refine ⟨by unfold nl; rw [if_neg h10], ?_⟩
    unfold limN
    rw [if_neg, if_neg h75, lim1_no (Or.inl (isDg_minus _))]
    intro e
    have := (List.cons.inj e).1
    revert this
    decide
  · obtain ⟨m, rfl⟩ := Int.eq_ofNat_of_zero_le (show 0 ≤ n by omega)
    refine ⟨nl_shw m, ?_⟩
    rw [shw_nat, if_neg (by omega)]
    unfold limN
    rw [if_neg (dg_not_max m), if_neg (dg_last_not (by decide)), lim1_no (Or.inr (by rw [val_dg]; omega))]
theorem rd_low (n : Int) : (0 ≤ n ∧ n ≤ 1099511627776 ∧ rd tLow (shw n) = (1, n, 0)) ∨ ((n < 0 ∨ 1099511627776 < n) ∧ rd tLow (shw n) = (-1, 0, 20)) := by
  by_cases h : n < 0 ∨ 1099511627776 < n
  · refine Or.inr ⟨h, ?_⟩
    obtain ⟨h1, h2⟩ := limN_far h
    unfold rd
    rw [h1, h2]
    rfl
  · refine Or.inl ⟨by omega, by omega, ?_⟩
    obtain ⟨m, rfl⟩ := Int.eq_ofNat_of_zero_le (show 0 ≤ n by omega)
    rw [rd_shw tLow (shw m) m (by omega) (nl_shw m)]
    rfl
theorem shw_size {n : Int} (h : i64 n) : (str (shw n)).size ≤ 20 := by
  show (shw n).length ≤ 20
  unfold shw
  split
  · decide
  · exact dgI_len h
set_option maxRecDepth 100000 in
set_option maxHeartbeats 4000000 in
theorem back_walk (n : Int) (a : Option Addr) (cap : Nat) (L : List ByteArray) (b : Option Addr) (cap2 : Nat) (V : List Int) (text : ByteArray) (w : World) (ht : Tabs w) (hn : i64 n) (hL : Strs w a L) (hS : Short L) (hl : L.length ≤ 9223372036854775807)
    (hV : Ints w b V) (h64 : I64s V) (hv : V.length ≤ 9223372036854775807) (hz : text.size ≤ maxLen) :
    Calls Tryd.prog 5 #[.int .i64 n, .slice a L.length cap, .slice b V.length cap2, .string text] w fun e w' => e = .returned (.bool true) ∧ Below w.heap.size w w' := by
  have HT : Hid (Tabs w) := ht
  have HL : Hid (Strs w a L) := hL
  have HV : Hid (Ints w b V) := hV
  have HO : Hid (∀ w, Strs w a L → Calls Tryd.prog 14 #[.slice a L.length cap] w fun e w' => e = .returned (.bool (overB L)) ∧ w' = w) := fun w h => pover a cap L w h hl
  have HSH : Hid (∀ w, Tabs w → Calls Tryd.prog 12 #[.int .i64 n] w fun e w' => e = .returned (.string (str (shw n))) ∧ Below w.heap.size w w') := fun w h => pshow n hn w h
  obtain ⟨⟨x, y, z⟩, hr⟩ : ∃ r, rd tLow (shw n) = r := ⟨_, rfl⟩
  have HRD : Hid (∀ w, Tabs w → Calls Tryd.prog 10 #[.string ⟨#[109, 101, 109, 111, 114, 121, 46, 108, 111, 119]⟩, .string (str (shw n))] w fun e w' => e = .returned (.tuple #[.int .i64 x, .int .i64 y, .int .i64 z]) ∧ Below w.heap.size w w') := fun w h => by
    refine (pread ⟨#[109, 101, 109, 111, 114, 121, 46, 108, 111, 119]⟩ (str (shw n)) w (by have := shw_size hn; unfold maxLen; omega) h).mono ?_
    rintro e w' ⟨rfl, hb⟩
    rw [show rd (⟨#[109, 101, 109, 111, 114, 121, 46, 108, 111, 119]⟩ : ByteArray).data.toList (str (shw n)).data.toList = (x, y, z) from hr]
    exact ⟨rfl, hb⟩
  have HXYZ : Hid ((0 ≤ n ∧ n ≤ 1099511627776 ∧ x = 1 ∧ y = n ∧ z = 0) ∨ ((n < 0 ∨ 1099511627776 < n) ∧ x = -1 ∧ y = 0 ∧ z = 20)) := by
    rcases rd_low n with ⟨h1, h2, h3⟩ | ⟨h1, h3⟩
    · rw [hr] at h3
      injection h3 with h4 h5
      injection h5 with h5 h6
      exact Or.inl ⟨h1, h2, h4, h5, h6⟩
    · rw [hr] at h3
      injection h3 with h4 h5
      injection h5 with h5 h6
      exact Or.inr ⟨h1, h4, h5, h6⟩
  obtain ⟨st, q, hst⟩ := stE_form (tx L) V
  have HP : Hid (∀ w, Strs w a L → Ints w b V → Tabs w → Calls Tryd.prog 15 #[.slice a L.length cap, .slice b V.length cap2] w fun e w' => e = .returned (.tuple #[.string st, .int .i64 q]) ∧ Below w.heap.size w w') := fun w h1 h2 h3 => by
    have := pstat a b cap cap2 L V w h1 hS h2 h64 hl h3
    rwa [hst] at this
  have HST : Hid ((q = 0 ∧ st.size ≤ 1000000 ∧ par st.data.toList = some (tx L, V)) ∨ q = 1) := by
    cases hok : stOk (tx L) V.length with
    | false =>
      rw [stE_no hok] at hst
      injection hst with hst
      injection hst with hst
      simp at hst
      exact Or.inr hst.2.symm
    | true =>
      rw [stE_yes hok] at hst
      injection hst with hst
      injection hst with hst
      simp at hst
      refine Or.inl ⟨hst.2.symm, ?_, ?_⟩
      · rw [← hst.1]
        unfold stOk at hok
        simp only [Bool.and_eq_true, decide_eq_true_eq] at hok
        have := stat_len (tx L) V hok.2.2.1 h64
        show (statT (tx L) V).length ≤ _
        omega
      · rw [← hst.1]
        exact (par_iff _ _ _).2 ⟨hok, rfl, h64⟩
  unfold maxLen at hz
  clear ht hL hV hS h64 hst hr hn
  cases ho : overB L with
  | true =>
    go_enter Tryd.func5, Tryd.ntmps5
    go_wp2_with (go_at_call 9; refine (works_any _ HT.out).mono ?_; rintro e w1 ⟨rfl, hb1⟩)
    refine (HO.out _ (HL.out.below hb1)).mono ?_
    rintro e w2 ⟨rfl, hw2⟩
    rw [hw2, ho]
    clear hw2 w2
    go_wp2_with fail
    go_ret
    exact ⟨rfl, hb1⟩
  | false =>
    by_cases h1 : (120 : Int) < V.length
    · go_enter Tryd.func5, Tryd.ntmps5
      go_wp2_with (go_at_call 9; refine (works_any _ HT.out).mono ?_; rintro e w1 ⟨rfl, hb1⟩)
      refine (HO.out _ (HL.out.below hb1)).mono ?_
      rintro e w2 ⟨rfl, hw2⟩
      rw [hw2, ho]
      clear hw2 w2
      go_wp2_with fail
      go_ret
      exact ⟨rfl, hb1⟩
    by_cases h2 : (1000 : Int) < text.size
    · go_enter Tryd.func5, Tryd.ntmps5
      go_wp2_with (go_at_call 9; refine (works_any _ HT.out).mono ?_; rintro e w1 ⟨rfl, hb1⟩)
      refine (HO.out _ (HL.out.below hb1)).mono ?_
      rintro e w2 ⟨rfl, hw2⟩
      rw [hw2, ho]
      clear hw2 w2
      go_wp2_with fail
      go_ret
      exact ⟨rfl, hb1⟩
    have HZ2 : Hid (text.size ≤ 1000000) := by show _ ≤ _; omega
    go_enter Tryd.func5, Tryd.ntmps5
    go_wp2_with (go_at_call 9; refine (works_any _ HT.out).mono ?_; rintro e w1 ⟨rfl, hb1⟩)
    refine (HO.out _ (HL.out.below hb1)).mono ?_
    rintro e w2 ⟨rfl, hw2⟩
    rw [hw2, ho]
    clear hw2 w2
    go_wp2_with fail
    refine (HSH.out _ (HT.out.below hb1)).mono ?_
    rintro e w2 ⟨rfl, hb2⟩
    have hb2' := hb1.trans (hb2.mono hb1.size)
    clear hb1 hb2
    go_wp2_with fail
    refine (HRD.out _ (HT.out.below hb2')).mono ?_
    rintro e w3 ⟨rfl, hb3⟩
    have hb3' := hb2'.trans (hb3.mono hb2'.size)
    clear hb2' hb3
    go_upto_region 7 with fail
    go_cut [67] (fun s67 wx => s67 = .bool false ∧ wx = w3)
    case first =>
      rcases HXYZ.out with ⟨k1, k2, rfl, rfl, rfl⟩ | ⟨k1, rfl, rfl, rfl⟩
      · go_wp2_with fail
        go_meet
        exact ⟨rfl, rfl⟩
      · rcases k1 with k1 | k1
        · go_wp2_with fail
          go_meet
          exact ⟨rfl, rfl⟩
        · have k2 : 0 ≤ n := by omega
          have k3 : decide (n ≤ 1099511627776) = false := by simp; omega
          go_wp2_with fail
          go_meet
          exact ⟨rfl, rfl⟩
    case rest =>
      obtain ⟨rfl, rfl⟩ := hcut
      go_wp2_with fail
      refine (HP.out _ (HL.out.below hb3') (HV.out.below hb3') (HT.out.below hb3')).mono ?_
      rintro e w4 ⟨rfl, hb4⟩
      have hb4' := hb3'.trans (hb4.mono hb3'.size)
      clear hb3' hb4
      go_upto_if 75 with fail
      go_cut [15] (fun s15 wx => s15 = s15 ∧ Below w.heap.size w wx)
      case first =>
        rcases HST.out with ⟨rfl, hsz, hpar⟩ | rfl
        · go_wp2_with fail
          refine (pparse st _ hsz (HT.out.below hb4')).mono ?_
          rw [hpar]
          rintro e w5 ⟨⟨M, a1, a2, d1, d2, hM, rfl, hs1, hi1⟩, hb5⟩
          have hb5' := hb4'.trans (hb5.mono hb4'.size)
          obtain rfl : M = L := tx_inj hM
          have HTX : Hid (∀ w, Strs w a1 M → Strs w a M → Calls Tryd.prog 19 #[.slice a1 M.length d1, .slice a M.length cap] w fun e w' => e = .returned (.bool true) ∧ Below w.heap.size w w') := fun w h1 h2 => same_texts a1 a d1 cap M w h1 h2 hl
          have HRW : Hid (∀ w, Ints w a2 V → Ints w b V → Calls Tryd.prog 20 #[.slice a2 V.length d2, .slice b V.length cap2] w fun e w' => e = .returned (.bool true) ∧ Below w.heap.size w w') := fun w h1 h2 => same_row a2 b d2 cap2 V w h1 h2 hv
          clear hb4' hb5 hM hpar
          go_wp2_with fail
          refine (HTX.out _ hs1 (HL.out.below hb5')).mono ?_
          rintro e w6 ⟨rfl, hb6⟩
          have hb6' := hb5'.trans (hb6.mono hb5'.size)
          have hi1' := hi1.below hb6
          clear hb5' hb6 hs1 hi1
          go_wp2_with fail
          refine (HRW.out _ hi1' (HV.out.below hb6')).mono ?_
          rintro e w7 ⟨rfl, hb7⟩
          have hb7' := hb6'.trans (hb7.mono hb6'.size)
          clear hb6' hb7 hi1'
          go_wp2_with fail
          go_meet
          exact ⟨trivial, hb7'⟩
        · go_wp2_with fail
          go_meet
          exact ⟨trivial, hb4'⟩
      case rest =>
        clear hb4'
        obtain ⟨-, hbc⟩ := hcut
        obtain ⟨p, hp⟩ : ∃ p, par text.data.toList = p := ⟨_, rfl⟩
        cases p with
        | none =>
          go_wp2_with fail
          refine (pparse text _ HZ2.out (HT.out.below hbc)).mono ?_
          rw [hp]
          rintro e w5 ⟨he, hb5⟩
          obtain rfl := pars_none he
          have hb5' := hbc.trans (hb5.mono hbc.size)
          clear hbc hb5 he
          go_wp2_with fail
          go_ret
          exact ⟨rfl, hb5'⟩
        | some r =>
          obtain ⟨nn, v⟩ := r
          have HN := par_len hp
          obtain ⟨ok, hst, hv64⟩ := (par_iff _ _ _).1 hp
          have htt : (text.data.toList == text.toList) = true := by rw [ByteArray.toList_eq]; simp
          go_wp2_with fail
          refine (pparse text _ HZ2.out (HT.out.below hbc)).mono ?_
          rw [hp]
          rintro e w5 ⟨⟨M, a1, a2, d1, d2, hM, rfl, hs1, hi1⟩, hb5⟩
          have hb5' := hbc.trans (hb5.mono hbc.size)
          have hml : M.length ≤ 9223372036854775807 := by
            have := HN.1
            rw [← hM, tx_length] at this
            omega
          have hsh : Short M := fun s hs => by
            have := HN.2.2 s.data.toList (by rw [← hM]; exact List.mem_map.2 ⟨s, hs, rfl⟩)
            have e : s.data.toList.length = s.size := by simp
            unfold maxLen
            omega
          have HQ : Hid (∀ w, Strs w a1 M → Ints w a2 v → Tabs w → Calls Tryd.prog 15 #[.slice a1 M.length d1, .slice a2 v.length d2] w fun e w' => e = .returned (.tuple #[.string (str text.data.toList), .int .i64 0]) ∧ Below w.heap.size w w') := fun w h1 h2 h3 => by
            have := pstat a1 a2 d1 d2 M v w h1 hsh h2 hv64 hml h3
            rw [hM, stE_yes ok, hst] at this
            exact this
          clear hbc hb5 hM HN hp ok hst hml hsh hv64
          go_wp2_with fail
          refine (HQ.out _ hs1 hi1 (HT.out.below hb5')).mono ?_
          rintro e w6 ⟨rfl, hb6⟩
          have hb6' := hb5'.trans (hb6.mono hb5'.size)
          clear hb5' hb6 hs1 hi1
          go_wp2_with fail
          go_ret
          exact ⟨rfl, hb6'⟩
end Go.Proofs.YtbkeoaombhhdiaaDoor
