/-
  The law BitsSet, walked: for every input it answers true.
-/
import Derived.Test.YtnhlafifmiiliaaDoorActs
namespace Go.Proofs.YtnhlafifmiiliaaDoor
open Go.RowKit

/-! ### what one set does to the bits -/
theorem bget_set_same (bs : List Bool) (i : Int) (on : Bool) : bget (bset bs i on) i = (decide (0 ≤ i ∧ i < bs.length) && on) := by
  by_cases h : 0 ≤ i ∧ i < bs.length
  · obtain ⟨n, rfl⟩ := Int.eq_ofNat_of_zero_le h.1
    have hn : n < bs.length := by omega
    rw [bget_in, decide_eq_true h]
    simp [bset, hn]
  · rw [bget_out (by rw [bset_len]; exact h), decide_eq_false h]; rfl
theorem bget_set_other (bs : List Bool) (i j : Int) (on : Bool) (h : i ≠ j) : bget (bset bs i on) j = bget bs j := by
  unfold bget bset
  by_cases hj : 0 ≤ j
  · split
    · simp only [hj, decide_true, Bool.true_and, List.getD_eq_getElem?_getD, List.getElem?_set]
      rw [if_neg (by omega)]
    · rfl
  · simp [hj]
theorem turned_again (bs : List Bool) (i : Int) (on : Bool) : turned (bset bs i on) i on = false := by
  unfold turned
  rw [bget_set_same, bset_len]
  by_cases h : 0 ≤ i ∧ i < bs.length
  · rw [decide_eq_true h]; simp
  · rw [decide_eq_false h]; rfl
theorem count_set (bs : List Bool) (n : Nat) (on : Bool) (h : n < bs.length) : ((bs.set n on).count true : Int) = bs.count true + (on.toNat : Int) - ((bs.getD n false).toNat : Int) := by
  induction bs generalizing n with
  | nil => simp at h
  | cons b r ih =>
    cases n with
    | zero => cases b <;> cases on <;> simp <;> omega
    | succ n =>
      have := ih n (by simpa using h)
      rw [List.set_cons_succ, List.getD_cons_succ, List.count_cons, List.count_cons]
      generalize (if (b == true) = true then 1 else 0) = q
      omega
theorem count_bset (bs : List Bool) (i : Int) (on : Bool) : ((bset bs i on).count true : Int) = bs.count true + (if turned bs i on then (if on then 1 else -1) else 0) := by
  by_cases h : 0 ≤ i ∧ i < bs.length
  · obtain ⟨n, rfl⟩ := Int.eq_ofNat_of_zero_le h.1
    have hn : n < bs.length := by omega
    have e0 : bset bs n on = bs.set n on := by simp [bset]
    rw [e0, count_set bs n on hn]
    unfold turned
    rw [decide_eq_true h, bget_in]
    cases on <;> cases bs.getD n false <;> simp <;> omega
  · have e1 : bset bs i on = bs := by
      unfold bset
      split
      · exact List.set_eq_of_length_le (by omega)
      · rfl
    unfold turned
    rw [e1, decide_eq_false h]; simp

theorem set_out_law (n : Int) (a : Option Addr) (cap m : Nat) (i : Int) (on : Bool) (other : Int) (w : World) (hT : Tab w) (hm : m ≤ 9223372036854775807) (h : n < 0 ∨ 300 < n ∨ 100 < m) :
    Calls Tryd.prog 8 #[.int .i64 n, .slice a m cap, .int .i64 i, .bool on, .int .i64 other] w fun e w' => e = .returned (.bool true) ∧ Below w.heap.size w w' := by
  by_cases h1 : n < 0
  · go_enter Tryd.func8, Tryd.ntmps8
    go_wp2_with (go_at_call 11; refine (works_any _ hT).mono ?_; rintro e w1 ⟨rfl, hb⟩)
    go_ret
    exact ⟨rfl, hb⟩
  · by_cases h2 : 300 < n
    · clear h
      go_enter Tryd.func8, Tryd.ntmps8
      go_wp2_with (go_at_call 11; refine (works_any _ hT).mono ?_; rintro e w1 ⟨rfl, hb⟩)
      go_ret
      exact ⟨rfl, hb⟩
    · have h3 : 100 < m := by omega
      clear h
      go_enter Tryd.func8, Tryd.ntmps8
      go_wp2_with (go_at_call 11; refine (works_any _ hT).mono ?_; rintro e w1 ⟨rfl, hb⟩)
      go_ret
      exact ⟨rfl, hb⟩

set_option maxHeartbeats 4000000 in
theorem set_in_law (n : Nat) (a : Option Addr) (cap : Nat) (l : List (Int × Bool)) (i : Int) (on : Bool) (other : Int) (w : World) (hT : Tab w) (hn : n ≤ 300) (hl : l.length ≤ 100) (hc : ActsAt w a l) :
    Calls Tryd.prog 8 #[.int .i64 n, .slice a l.length cap, .int .i64 i, .bool on, .int .i64 other] w fun e w' => e = .returned (.bool true) ∧ Below w.heap.size w w' := by
  have hd1 : decide ((100 : Int) < (l.length : Int)) = false := by simp; omega
  have hd2 : decide ((300 : Int) < (n : Int)) = false := by simp; omega
  have hd3 : decide ((n : Int) < 0) = false := by simp
  go_enter Tryd.func8, Tryd.ntmps8
  go_wp2_with fail
  refine (works_any _ hT).mono ?_
  rintro e w1 ⟨rfl, hb⟩
  have hc1 := hc.below hb
  have hp := hT.pos
  clear hc hT
  go_wp2_with fail
  refine (newB n n w1 (Or.inr (Or.inl ⟨rfl, by omega⟩))).mono ?_
  rintro e w2 ⟨rfl, hm2, hb2⟩
  obtain ⟨bw, hbw⟩ : ∃ bw, bw = w1.heap.size := ⟨_, rfl⟩
  rw [← hbw] at hm2 ⊢
  have hs1 : w1.heap.size ≤ bw := by omega
  clear hbw
  go_wp2
  go_loopw [13] (fun i wr => ∃ k : Nat, k ≤ l.length ∧ i = .int .i64 k ∧ (∃ bs, bs.length = n ∧ MapB wr (bw + 1) bw bs) ∧ Below w1.heap.size w1 wr) (fun i _ => l.length - (intOf i).toNat)
  case atStart => exact ⟨0, by omega, rfl, ⟨_, by simp, hm2⟩, hb2⟩
  case round =>
    clear hm2 hb2
    obtain ⟨k, hk, rfl, ⟨bs, hbs, hm⟩, hbel⟩ := hrel
    by_cases hlt : k < l.length
    · obtain ⟨b, off, rfl, h1, h2⟩ := (hc1.below hbel) k hlt
      have hmd : MapB wr.drew (bw + 1) bw bs := hm.drewN 1
      go_wp2
      go_region_with (go_at_call 15; refine (setB _ _ bs _ _ _ hmd).mono ?_; rintro e w3 ⟨rfl, hm3, hb3⟩)
      all_goals
        have hB3 : Below w1.heap.size w1 w3 := (below_drawn hbel 1).trans (hb3.below hs1)
        have hl3 : (bset bs l[k].1 l[k].2).length = n := by rw [bset_len]; exact hbs
        have HL3 : Hid ((bset bs l[k].1 l[k].2).length = n) := hl3
        clear hl3 hb3 hbel hm hmd h1 h2 hbs
        go_wp2
        go_roundw
        case rel => exact ⟨k + 1, by omega, by go_num, ⟨_, HL3.out, hm3⟩, hB3⟩
        case measure => simp [intOf]; omega
    · have hBe : Below w.heap.size w wr := hb.trans (hbel.mono hb.size)
      have hsw : w.heap.size ≤ bw := Nat.le_trans hb.size hs1
      have HBS : Hid (bs.length = n) := hbs
      have hct : bs.count true ≤ 300 := by have h := HBS.out; exact Nat.le_trans List.count_le_length (by omega)
      obtain ⟨tn, htn⟩ : ∃ tn, tn = turned bs i on := ⟨_, rfl⟩
      obtain ⟨C, hC⟩ : ∃ C, C = bs.count true := ⟨_, rfl⟩
      obtain ⟨C', hC'⟩ : ∃ C' : Int, C' = ((bset bs i on).count true : Int) := ⟨_, rfl⟩
      obtain ⟨gi, hgi⟩ : ∃ gi, gi = bget bs i := ⟨_, rfl⟩
      obtain ⟨go, hgo⟩ : ∃ go, go = bget bs other := ⟨_, rfl⟩
      obtain ⟨inn, hin⟩ : ∃ inn, inn = decide (0 ≤ i ∧ i < (n : Int)) := ⟨_, rfl⟩
      have HG0 : Hid (∀ w, MapB w (bw + 1) bw bs → Calls Tryd.prog 17 #[.pointer (some ⟨bw + 1, 0, none⟩), .int .i64 other] w fun e w' => e = .returned (.bool go) ∧ w' = w) := fun w h => by rw [hgo]; exact getB _ _ bs other w h
      have HG1 : Hid (∀ w, MapB w (bw + 1) bw bs → Calls Tryd.prog 17 #[.pointer (some ⟨bw + 1, 0, none⟩), .int .i64 i] w fun e w' => e = .returned (.bool gi) ∧ w' = w) := fun w h => by rw [hgi]; exact getB _ _ bs i w h
      have HC1 : Hid (∀ w, MapB w (bw + 1) bw bs → Calls Tryd.prog 19 #[.pointer (some ⟨bw + 1, 0, none⟩)] w fun e w' => e = .returned (.int .i64 C) ∧ w' = w) := fun w h => by rw [hC]; exact countB _ _ bs w h
      have HS1 : Hid (∀ w, MapB w (bw + 1) bw bs → Calls Tryd.prog 15 #[.pointer (some ⟨bw + 1, 0, none⟩), .int .i64 i, .bool on] w fun e w' => e = .returned (.bool tn) ∧ MapB w' (bw + 1) bw (bset bs i on) ∧ But bw w w') := fun w h => by rw [htn]; exact setB _ _ bs i on w h
      have HS2 : Hid (∀ w, MapB w (bw + 1) bw (bset bs i on) → Calls Tryd.prog 15 #[.pointer (some ⟨bw + 1, 0, none⟩), .int .i64 i, .bool on] w fun e w' => e = .returned (.bool false) ∧ MapB w' (bw + 1) bw (bset bs i on) ∧ But bw w w') := fun w h => by
        have := setB _ _ (bset bs i on) i on w h
        rw [turned_again] at this
        refine this.mono ?_
        rintro e w' ⟨rfl, h1, h2⟩
        refine ⟨rfl, ?_, h2⟩
        have e2 : bset (bset bs i on) i on = bset bs i on := by unfold bset; split <;> simp
        rw [e2] at h1
        exact h1
      have HG2 : Hid (∀ w, MapB w (bw + 1) bw (bset bs i on) → Calls Tryd.prog 17 #[.pointer (some ⟨bw + 1, 0, none⟩), .int .i64 i] w fun e w' => e = .returned (.bool (inn && on)) ∧ w' = w) := fun w h => by
        have := getB _ _ (bset bs i on) i w h
        rw [bget_set_same, HBS.out, ← hin] at this
        exact this
      have HG3 : Hid (∀ w, i ≠ other → MapB w (bw + 1) bw (bset bs i on) → Calls Tryd.prog 17 #[.pointer (some ⟨bw + 1, 0, none⟩), .int .i64 other] w fun e w' => e = .returned (.bool go) ∧ w' = w) := fun w hne h => by
        have := getB _ _ (bset bs i on) other w h
        rw [bget_set_other _ _ _ _ hne, ← hgo] at this
        exact this
      have HC2 : Hid (∀ w, MapB w (bw + 1) bw (bset bs i on) → Calls Tryd.prog 19 #[.pointer (some ⟨bw + 1, 0, none⟩)] w fun e w' => e = .returned (.int .i64 C') ∧ w' = w) := fun w h => by rw [hC']; exact countB _ _ (bset bs i on) w h
      have hcc := count_bset bs i on
      rw [← hC, ← hC', ← htn] at hcc
      have htt : tn = (inn && (gi != on)) := by rw [htn, hin, hgi]; unfold turned; rw [HBS.out]
      have hCl : C ≤ 300 := by rw [hC]; exact hct
      have HCC := (show Hid _ from hcc)
      have HTT := (show Hid _ from htt)
      have HIN := (show Hid _ from hin)
      clear hcc htt hin hC hC' htn hgi hgo hct hbs hc1 hb hbel
      go_wp2_with fail
      refine (HG0.out _ hm).mono ?_
      rintro e wq ⟨rfl, rfl⟩
      go_wp2_with fail
      refine (HG1.out _ hm).mono ?_
      rintro e wq ⟨rfl, rfl⟩
      go_wp2_with fail
      refine (HC1.out _ hm).mono ?_
      rintro e wq ⟨rfl, rfl⟩
      go_wp2_with fail
      refine (HS1.out _ hm).mono ?_
      rintro e w5 ⟨rfl, hm5, hb5⟩
      have hB5 := hBe.trans (hb5.below hsw)
      clear hb5 hBe hm
      go_wp2_with fail
      refine (HS2.out _ hm5).mono ?_
      rintro e w6 ⟨rfl, hm6, hb6⟩
      have hB6 := hB5.trans (hb6.below hsw)
      clear hb6 hB5 hm5
      by_cases h0 : 0 ≤ i
      · by_cases hin : i < (n : Int)
        · have hi1 : inn = true := by rw [HIN.out]; exact decide_eq_true ⟨h0, hin⟩
          subst hi1
          have hcc := HCC.out
          have htt := HTT.out
          clear HCC HTT HIN HG0 HG1 HC1 HS1 HS2
          cases on <;> cases gi <;> simp at htt <;> subst htt <;> simp at hcc <;> subst hcc <;> by_cases hio : i = other
          all_goals
            first
              | (have hio' := hio; subst hio'; have hb1 : (i == i) = true := (by simp); go_wp2_with (first | (go_at_call 17; refine (HG2.out _ hm6).mono ?_; rintro e wq ⟨rfl, rfl⟩) | (go_at_call 19; refine (HC2.out _ hm6).mono ?_; rintro e wq ⟨rfl, rfl⟩)); go_ret; exact ⟨rfl, hB6⟩)
              | (have hb1 : (i == other) = false := (by simp [hio]); have HIO := (show Hid (¬ i = other) from hio); clear hio; go_wp2_with (first | (go_at_call_of 17 i; refine (HG2.out _ hm6).mono ?_; rintro e wq ⟨rfl, rfl⟩) | (go_at_call_of 17 other; refine (HG3.out _ HIO.out hm6).mono ?_; rintro e wq ⟨rfl, rfl⟩) | (go_at_call 19; refine (HC2.out _ hm6).mono ?_; rintro e wq ⟨rfl, rfl⟩)); go_ret; exact ⟨rfl, hB6⟩)
        · have hi1 : inn = false := by rw [HIN.out]; exact decide_eq_false (by omega)
          subst hi1
          have hcc := HCC.out
          have htt := HTT.out
          clear HCC HTT HIN HG0 HG1 HC1 HS1 HS2
          simp at htt
          subst htt
          simp at hcc
          subst hcc
          cases on <;> by_cases hio : i = other
          all_goals
            first
              | (have hio' := hio; subst hio'; have hb1 : (i == i) = true := (by simp); go_wp2_with (first | (go_at_call 17; refine (HG2.out _ hm6).mono ?_; rintro e wq ⟨rfl, rfl⟩) | (go_at_call 19; refine (HC2.out _ hm6).mono ?_; rintro e wq ⟨rfl, rfl⟩)); go_ret; exact ⟨rfl, hB6⟩)
              | (have hb1 : (i == other) = false := (by simp [hio]); have HIO := (show Hid (¬ i = other) from hio); clear hio; go_wp2_with (first | (go_at_call_of 17 i; refine (HG2.out _ hm6).mono ?_; rintro e wq ⟨rfl, rfl⟩) | (go_at_call_of 17 other; refine (HG3.out _ HIO.out hm6).mono ?_; rintro e wq ⟨rfl, rfl⟩) | (go_at_call 19; refine (HC2.out _ hm6).mono ?_; rintro e wq ⟨rfl, rfl⟩)); go_ret; exact ⟨rfl, hB6⟩)
      · have hi1 : inn = false := by rw [HIN.out]; exact decide_eq_false (by omega)
        subst hi1
        have hcc := HCC.out
        have htt := HTT.out
        clear HCC HTT HIN HG0 HG1 HC1 HS1 HS2
        simp at htt
        subst htt
        simp at hcc
        subst hcc
        cases on <;> by_cases hio : i = other
        all_goals
          first
            | (have hio' := hio; subst hio'; have hb1 : (i == i) = true := (by simp); go_wp2_with (first | (go_at_call 17; refine (HG2.out _ hm6).mono ?_; rintro e wq ⟨rfl, rfl⟩) | (go_at_call 19; refine (HC2.out _ hm6).mono ?_; rintro e wq ⟨rfl, rfl⟩)); go_ret; exact ⟨rfl, hB6⟩)
            | (have hb1 : (i == other) = false := (by simp [hio]); have HIO := (show Hid (¬ i = other) from hio); clear hio; go_wp2_with (first | (go_at_call_of 17 i; refine (HG2.out _ hm6).mono ?_; rintro e wq ⟨rfl, rfl⟩) | (go_at_call_of 17 other; refine (HG3.out _ HIO.out hm6).mono ?_; rintro e wq ⟨rfl, rfl⟩) | (go_at_call 19; refine (HC2.out _ hm6).mono ?_; rintro e wq ⟨rfl, rfl⟩)); go_ret; exact ⟨rfl, hB6⟩)

theorem set_walk (x0 : Int) (a1 : Option Addr) (cap1 : Nat) (l1 : List (Int × Bool)) (x2 : Int) (b3 : Bool) (x4 : Int) (w : World) (hT : Tab w) (_ : -9223372036854775808 ≤ x0 ∧ x0 ≤ 9223372036854775807) (t1 : ActsAt w a1 l1) (_ : True) (n1 : l1.length * 16 ≤ 140737488351232) (_ : a1 = none → cap1 = 0)
    (_ : -9223372036854775808 ≤ x2 ∧ x2 ≤ 9223372036854775807) (_ : -9223372036854775808 ≤ x4 ∧ x4 ≤ 9223372036854775807) :
    Calls Tryd.prog 8 #[.int .i64 x0, .slice a1 l1.length cap1, .int .i64 x2, .bool b3, .int .i64 x4] w fun e w' => e = .returned (.bool true) ∧ Below w.heap.size w w' := by
  by_cases h : x0 < 0 ∨ 300 < x0 ∨ 100 < l1.length
  · exact set_out_law x0 a1 cap1 _ x2 b3 x4 w hT (by omega) h
  · obtain ⟨n, rfl⟩ := Int.eq_ofNat_of_zero_le (show 0 ≤ x0 by omega)
    exact set_in_law n a1 cap1 l1 x2 b3 x4 w hT (by omega) (by omega) t1

end Go.Proofs.YtnhlafifmiiliaaDoor
