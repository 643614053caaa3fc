/-
  The law BitsNext, walked: for every input it answers true.
-/
import Derived.Test.YtnhlafifmiiliaaDoorActs
namespace Go.Proofs.YtnhlafifmiiliaaDoor
open Go.RowKit

/-! ### how many are met -/
theorem count_hit (bs : List Bool) (on : Bool) (f r : Nat) (hfr : f ≤ r) (hr : r < bs.length) (hon : bs.getD r false = on) (hno : ∀ i, f ≤ i → i < r → bs.getD i false ≠ on) :
    (bs.take (r + 1)).count on = (bs.take f).count on + 1 := by
  have key : ∀ j, f ≤ j → j ≤ r → (bs.take j).count on = (bs.take f).count on := by
    intro j
    induction j with
    | zero => intro h1 _; rw [show f = 0 from by omega]
    | succ j ih0 =>
      intro hj' hjr
      by_cases hfj : f = j + 1
      · rw [hfj]
      have hj : f ≤ j := by omega
      have ih := fun h => ih0 hj h
      have hjl : j < bs.length := by omega
      have h := hno j hj (by omega)
      rw [take_snoc bs j hjl, List.count_append, ih (by omega)]
      have : bs.getD j false = bs[j] := by simp [hjl]
      rw [this] at h
      simp [h]
  have : bs.getD r false = bs[r] := by simp [hr]
  rw [take_snoc bs r hr, List.count_append, key r hfr (Nat.le_refl _), ← this, hon]
  simp
theorem count_miss (bs : List Bool) (on : Bool) (f : Nat) (hno : ∀ i, f ≤ i → i < bs.length → bs.getD i false ≠ on) : bs.count on = (bs.take f).count on := by
  have h : (bs.drop f).count on = 0 := by
    rw [List.count_eq_zero]
    intro hm
    obtain ⟨i, hi, e⟩ := List.getElem_of_mem hm
    rw [List.getElem_drop] at e
    have hl : f + i < bs.length := by simp at hi; omega
    exact hno (f + i) (by omega) hl (by simp [hl, e])
  conv => lhs; rw [← List.take_append_drop f bs]
  rw [List.count_append, h]; rfl
theorem count_false (bs : List Bool) : bs.count false + bs.count true = bs.length := by
  induction bs with
  | nil => rfl
  | cons b r ih => cases b <;> simp <;> omega

def mea (n : Nat) (v : Value) : Nat := if intOf v < 0 then 0 else n - (intOf v).toNat
theorem mea_neg (n : Nat) : mea n (.int .i64 (-1)) = 0 := rfl
theorem mea_nat (n j : Nat) : mea n (.int .i64 j) = n - j := by
  show (if (j : Int) < 0 then 0 else n - (j : Int).toNat) = n - j
  rw [if_neg (by omega), Int.toNat_natCast]

theorem next_out_law (n : Int) (a : Option Addr) (cap m : Nat) (on : Bool) (w : World) (hT : Tab w) (hm : m ≤ 9223372036854775807) (h : n < 0 ∨ 300 < n ∨ 100 < m) :
    Calls Tryd.prog 7 #[.int .i64 n, .slice a m cap, .bool on] w fun e w' => e = .returned (.bool true) ∧ Below w.heap.size w w' := by
  by_cases h1 : n < 0
  · go_enter Tryd.func7, Tryd.ntmps7
    go_wp2_with (go_at_call 11; refine (works_any _ hT).mono ?_; rintro e w1 ⟨rfl, hb⟩)
    go_ret
    exact ⟨rfl, hb⟩
  · by_cases h2 : 300 < n
    · clear h
      go_enter Tryd.func7, Tryd.ntmps7
      go_wp2_with (go_at_call 11; refine (works_any _ hT).mono ?_; rintro e w1 ⟨rfl, hb⟩)
      go_ret
      exact ⟨rfl, hb⟩
    · have h3 : 100 < m := by omega
      clear h
      go_enter Tryd.func7, Tryd.ntmps7
      go_wp2_with (go_at_call 11; refine (works_any _ hT).mono ?_; rintro e w1 ⟨rfl, hb⟩)
      go_ret
      exact ⟨rfl, hb⟩

set_option maxHeartbeats 2000000 in
theorem next_in_law (n : Nat) (a : Option Addr) (cap : Nat) (l : List (Int × Bool)) (on : Bool) (w : World) (hT : Tab w) (hn : n ≤ 300) (hl : l.length ≤ 100) (hc : ActsAt w a l) :
    Calls Tryd.prog 7 #[.int .i64 n, .slice a l.length cap, .bool on] w fun e w' => e = .returned (.bool true) ∧ Below w.heap.size w w' := by
  have hd1 : decide ((100 : Int) < (l.length : Int)) = false := by simp; omega
  have hd2 : decide ((300 : Int) < (n : Int)) = false := by simp; omega
  have hd3 : decide ((n : Int) < 0) = false := by simp
  go_enter Tryd.func7, Tryd.ntmps7
  go_wp2_with fail
  refine (works_any _ hT).mono ?_
  rintro e w1 ⟨rfl, hb⟩
  have hc1 := hc.below hb
  have hT1 := hT.below hb hT.pos
  have hp := hT1.pos
  clear hc hT
  go_wp2_with fail
  refine (newB n n w1 (Or.inr (Or.inl ⟨rfl, by omega⟩))).mono ?_
  rintro e w2 ⟨rfl, hm2, hb2⟩
  obtain ⟨bw, hbw⟩ : ∃ bw, bw = w1.heap.size := ⟨_, rfl⟩
  rw [← hbw] at hm2 ⊢
  have hs1 : w1.heap.size ≤ bw := by omega
  clear hbw
  go_wp2
  go_loopw [9] (fun i wr => ∃ k : Nat, k ≤ l.length ∧ i = .int .i64 k ∧ (∃ bs, bs.length = n ∧ MapB wr (bw + 1) bw bs) ∧ Below w1.heap.size w1 wr) (fun i _ => l.length - (intOf i).toNat)
  case atStart => exact ⟨0, by omega, rfl, ⟨_, by simp, hm2⟩, hb2⟩
  case round =>
    clear hm2 hb2
    obtain ⟨k, hk, rfl, ⟨bs, hbs, hm⟩, hbel⟩ := hrel
    by_cases hlt : k < l.length
    · obtain ⟨b, off, rfl, h1, h2⟩ := (hc1.below hbel) k hlt
      have hmd : MapB wr.drew (bw + 1) bw bs := hm.drewN 1
      go_wp2
      go_region_with (go_at_call 15; refine (setB _ _ bs _ _ _ hmd).mono ?_; rintro e w3 ⟨rfl, hm3, hb3⟩)
      all_goals
        have hB3 : Below w1.heap.size w1 w3 := (below_drawn hbel 1).trans (hb3.below hs1)
        have hl3 : (bset bs l[k].1 l[k].2).length = n := by rw [bset_len]; exact hbs
        have HL3 : Hid ((bset bs l[k].1 l[k].2).length = n) := hl3
        clear hl3 hb3 hbel hm hmd h1 h2 hbs
        go_wp2
        go_roundw
        case rel => exact ⟨k + 1, by omega, by go_num, ⟨_, HL3.out, hm3⟩, hB3⟩
        case measure => simp [intOf]; omega
    · have hTr := hT1.below hbel hp
      have hBe : Below w.heap.size w wr := hb.trans (hbel.mono hb.size)
      have HBS : Hid (bs.length = n) := hbs
      have hct : bs.count true ≤ n := by rw [← hbs]; exact List.count_le_length
      have hci : ∀ f, (bs.take f).count on ≤ f := fun f => Nat.le_trans List.count_le_length (List.length_take_le _ _)
      have HCI := (show Hid _ from hci)
      clear hbs hbel hc1 hb hT1 hci
      go_wp2_with fail
      refine (nextB _ _ bs 0 0 on _ hm hTr rfl).mono ?_
      rintro e wq ⟨⟨r0, rfl, hr0⟩, rfl⟩
      have HR0 : Hid (IsNext bs 0 on r0) := hr0
      clear hr0
      go_wp2
      go_loop [10, 11] (fun met at_ => ∃ f : Nat, f ≤ n ∧ met = .int .i64 ((bs.take f).count on : Nat) ∧ ∃ r, at_ = .int .i64 r ∧ Hid (IsNext bs f on r)) (fun _ at_ => mea n at_)
      case atStart => exact ⟨0, by omega, rfl, r0, rfl, HR0⟩
      case round =>
        clear HR0
        obtain ⟨f, hf, rfl, r, rfl, HR⟩ := hrel
        rcases HR.out with ⟨hr, hno⟩ | ⟨j, hr, hj1, hj2, hj3, hj4⟩
        · have HE : Hid (bs.count on = (bs.take f).count on) := count_miss bs on f hno
          subst hr
          clear hno HR
          obtain ⟨M, hM⟩ : ∃ M, M = (bs.take f).count on := ⟨_, rfl⟩
          obtain ⟨C, hC⟩ : ∃ C, C = bs.count true := ⟨_, rfl⟩
          rw [← hM] at HE ⊢
          have hCn : C ≤ n := by rw [hC]; exact hct
          have HCt : Hid (∀ w, MapB w (bw + 1) bw bs → Calls Tryd.prog 19 #[.pointer (some ⟨bw + 1, 0, none⟩)] w fun e w' => e = .returned (.int .i64 C) ∧ w' = w) := fun w h => by
            rw [hC]; exact countB _ _ bs w h
          have hfin : (if on then (C : Int) else (n : Int) - (C : Int)) = (M : Int) := by
            have := HE.out
            have h3 := count_false bs
            have h4 := HBS.out
            cases on
            · simp; omega
            · simp; omega
          have hMM : ((M : Int) == (M : Int)) = true := by simp
          clear hM hC hct HE
          cases on
          · simp only [Bool.false_eq_true, if_false] at hfin
            go_wp2_with (go_at_call 19; refine (HCt.out _ hm).mono ?_; rintro e wq ⟨rfl, rfl⟩)
            go_ret
            exact ⟨rfl, hBe⟩
          · simp only [if_true] at hfin
            go_wp2_with (go_at_call 19; refine (HCt.out _ hm).mono ?_; rintro e wq ⟨rfl, rfl⟩)
            go_ret
            exact ⟨rfl, hBe⟩
        · subst hr
          have hjn : j < n := by have := HBS.out; omega
          have HE : Hid ((bs.take (j + 1)).count on = (bs.take f).count on + 1) := count_hit bs on f j hj1 hj2 hj3 hj4
          have hMf := HCI.out f
          obtain ⟨M, hM⟩ : ∃ M, M = (bs.take f).count on := ⟨_, rfl⟩
          rw [← hM] at HE hMf ⊢
          have hne : (on != on) = false := by simp
          have HG : Hid (∀ w, MapB w (bw + 1) bw bs → Calls Tryd.prog 17 #[.pointer (some ⟨bw + 1, 0, none⟩), .int .i64 j] w fun e w' => e = .returned (.bool on) ∧ w' = w) := fun w h => by
            have := getB _ _ bs j w h
            rw [bget_in, hj3] at this
            exact this
          clear hM hj3 hj4 HR hct
          go_wp2_with (first
            | (go_at_call 17; refine (HG.out _ hm).mono ?_; rintro e wq ⟨rfl, rfl⟩)
            | (go_at_call 21; refine (nextB _ _ bs _ (j + 1) on _ hm hTr (by omega)).mono ?_; rintro e wq ⟨⟨r1, rfl, hr1⟩, rfl⟩; have HR1 := (show Hid (IsNext bs (j + 1) on r1) from hr1); clear hr1))
          go_round
          case rel => exact ⟨j + 1, by omega, by rw [HE.out]; go_num, r1, rfl, HR1⟩
          case measure =>
            rcases HR1.out with ⟨rfl, -⟩ | ⟨i, rfl, hi1, hi2, -⟩
            · rw [mea_neg, mea_nat]; omega
            · have := HBS.out
              rw [mea_nat, mea_nat]; omega

theorem next_walk (x0 : Int) (a1 : Option Addr) (cap1 : Nat) (l1 : List (Int × Bool)) (b2 : Bool) (w : World) (hT : Tab w) (_ : -9223372036854775808 ≤ x0 ∧ x0 ≤ 9223372036854775807) (t1 : ActsAt w a1 l1) (_ : True) (n1 : l1.length * 16 ≤ 140737488351232) (_ : a1 = none → cap1 = 0) :
    Calls Tryd.prog 7 #[.int .i64 x0, .slice a1 l1.length cap1, .bool b2] w fun e w' => e = .returned (.bool true) ∧ Below w.heap.size w w' := by
  by_cases h : x0 < 0 ∨ 300 < x0 ∨ 100 < l1.length
  · exact next_out_law x0 a1 cap1 _ b2 w hT (by omega) h
  · obtain ⟨n, rfl⟩ := Int.eq_ofNat_of_zero_le (show 0 ≤ x0 by omega)
    exact next_in_law n a1 cap1 l1 b2 w hT (by omega) (by omega) t1

end Go.Proofs.YtnhlafifmiiliaaDoor
