/-
  The document's Read.
-/
import Derived.Test.YtbkeoaombhhdiaaDoorR2
namespace Go.Proofs.YtbkeoaombhhdiaaDoor
open Go.RowKit

theorem ss (T : Bs) (s : ByteArray) : (T == s.toList) = decide (s.data.toList = T) := by
  rw [ByteArray.toList_eq, Bool.eq_iff_iff, beq_iff_eq, decide_eq_true_eq]
  exact eq_comm
theorem ss_no {T U : Bs} {s : ByteArray} (h : s.data.toList = U) (hne : U ≠ T) : (T == s.toList) = false := by
  rw [ss, h]
  simpa using hne
theorem ss_yes {T : Bs} {s : ByteArray} (h : s.data.toList = T) : (T == s.toList) = true := by
  rw [ss, h]
  simp
theorem ss_not {T : Bs} {s : ByteArray} (h : s.data.toList ≠ T) : (T == s.toList) = false := by
  rw [ss]
  simpa using h
/-- Which of the five a name is, told by what the five comparisons say. -/
theorem five (s : ByteArray) :
    (fileI s.data.toList = 0 ∧ (tMin == s.toList) = true ∧ (tLow == s.toList) = false ∧ (tMaxF == s.toList) = false ∧ (tSwap == s.toList) = false ∧ (tOom == s.toList) = false) ∨
    (fileI s.data.toList = 1 ∧ (tMin == s.toList) = false ∧ (tLow == s.toList) = true ∧ (tMaxF == s.toList) = false ∧ (tSwap == s.toList) = false ∧ (tOom == s.toList) = false) ∨
    (fileI s.data.toList = 2 ∧ (tMin == s.toList) = false ∧ (tLow == s.toList) = false ∧ (tMaxF == s.toList) = true ∧ (tSwap == s.toList) = false ∧ (tOom == s.toList) = false) ∨
    (fileI s.data.toList = 3 ∧ (tMin == s.toList) = false ∧ (tLow == s.toList) = false ∧ (tMaxF == s.toList) = false ∧ (tSwap == s.toList) = true ∧ (tOom == s.toList) = false) ∨
    (fileI s.data.toList = 4 ∧ (tMin == s.toList) = false ∧ (tLow == s.toList) = false ∧ (tMaxF == s.toList) = false ∧ (tSwap == s.toList) = false ∧ (tOom == s.toList) = true) ∨
    (fileI s.data.toList = -1 ∧ (tMin == s.toList) = false ∧ (tLow == s.toList) = false ∧ (tMaxF == s.toList) = false ∧ (tSwap == s.toList) = false ∧ (tOom == s.toList) = false) := by
  by_cases h0 : s.data.toList = tMin
  · exact Or.inl ⟨by rw [h0]; decide, ss_yes h0, ss_no h0 (by decide), ss_no h0 (by decide), ss_no h0 (by decide), ss_no h0 (by decide)⟩
  by_cases h1 : s.data.toList = tLow
  · exact Or.inr (Or.inl ⟨by rw [h1]; decide, ss_not h0, ss_yes h1, ss_no h1 (by decide), ss_no h1 (by decide), ss_no h1 (by decide)⟩)
  by_cases h2 : s.data.toList = tMaxF
  · exact Or.inr (Or.inr (Or.inl ⟨by rw [h2]; decide, ss_not h0, ss_not h1, ss_yes h2, ss_no h2 (by decide), ss_no h2 (by decide)⟩))
  by_cases h3 : s.data.toList = tSwap
  · exact Or.inr (Or.inr (Or.inr (Or.inl ⟨by rw [h3]; decide, ss_not h0, ss_not h1, ss_not h2, ss_yes h3, ss_no h3 (by decide)⟩)))
  by_cases h4 : s.data.toList = tOom
  · exact Or.inr (Or.inr (Or.inr (Or.inr (Or.inl ⟨by rw [h4]; decide, ss_not h0, ss_not h1, ss_not h2, ss_not h3, ss_yes h4⟩))))
  · exact Or.inr (Or.inr (Or.inr (Or.inr (Or.inr ⟨by unfold fileI; rw [if_neg h0, if_neg h1, if_neg h2, if_neg h3, if_neg h4], ss_not h0, ss_not h1, ss_not h2, ss_not h3, ss_not h4⟩))))
theorem file_range (T : Bs) : fileI T = -1 ∨ (0 ≤ fileI T ∧ fileI T ≤ 4) := by
  unfold fileI
  split
  · omega
  split
  · omega
  split
  · omega
  split
  · omega
  split <;> omega
theorem limI_cases (T : Bs) : (limN T = none ∧ limI T = -1) ∨ (∃ n : Nat, limN T = some n ∧ limI T = n ∧ n ≤ 1099511627776) := by
  unfold limI
  cases h : limN T with
  | none => exact Or.inl ⟨rfl, rfl⟩
  | some n => exact Or.inr ⟨n, rfl, rfl, limN_le h⟩
set_option maxRecDepth 100000 in
set_option maxHeartbeats 4000000 in
theorem rread (name s : ByteArray) (w : World) (hs : s.size ≤ maxLen) :
    Calls Tryd.prog 11 #[.string name, .string s] w fun e w' => e = three (rd name.data.toList s.data.toList) ∧ Below w.heap.size w w' := by
  unfold maxLen at hs
  go_enter Tryd.func11, Tryd.ntmps11
  go_upto_block 0 with fail
  go_cut [8] (fun s8 wx => s8 = .int .i64 (fileI name.data.toList) ∧ Below w.heap.size w wx)
  case first =>
    rcases five name with ⟨hf, h0, h1, h2, h3, h4⟩ | ⟨hf, h0, h1, h2, h3, h4⟩ | ⟨hf, h0, h1, h2, h3, h4⟩ | ⟨hf, h0, h1, h2, h3, h4⟩ | ⟨hf, h0, h1, h2, h3, h4⟩ | ⟨hf, h0, h1, h2, h3, h4⟩
    all_goals simp only [tMin, tLow, tMaxF, tSwap, tOom] at h0 h1 h2 h3 h4
    all_goals have HF : Hid _ := hf
    all_goals clear hf
    all_goals go_wp2_with fail
    all_goals refine wp_loop_rounds 6 ?_
    all_goals rw [rounds_succ]
    all_goals go_wp2_with fail
    all_goals rw [rounds_succ]
    all_goals go_wp2_with fail
    all_goals rw [rounds_succ]
    all_goals go_wp2_with fail
    all_goals rw [rounds_succ]
    all_goals go_wp2_with fail
    all_goals rw [rounds_succ]
    all_goals go_wp2_with fail
    all_goals rw [rounds_succ]
    all_goals go_wp2_with fail
    all_goals go_meet
    all_goals exact ⟨by rw [HF.out], (Below.refl _ _).alloc (Nat.le_refl _) _⟩
  case rest =>
    obtain ⟨rfl, hbc⟩ := hcut
    obtain ⟨f, hf⟩ : ∃ f, fileI name.data.toList = f := ⟨_, rfl⟩
    have hfr := file_range name.data.toList
    rw [hf] at hfr ⊢
    have HR : Hid (rd name.data.toList s.data.toList = if f = -1 then ((-1, 0, 2) : Int × Int × Int) else rdO f (wrt f (nl s.data.toList))) := by
      show rd _ _ = _
      rw [rd_wrt, hf]
    clear hf
    by_cases hneg : f = -1
    · subst hneg
      go_wp2_with fail
      go_ret3
      rw [HR.out]
      exact ⟨rfl, hbc⟩
    have hpos : 0 ≤ f := by omega
    have hle : f ≤ 4 := by omega
    have HW : Hid (rd name.data.toList s.data.toList = rdO f (wrt f (nl s.data.toList))) := by
      show rd _ _ = _
      rw [HR.out, if_neg hneg]
    clear hfr HR
    by_cases h0 : s.data.toList = []
    · have HN : Hid (rd name.data.toList s.data.toList = (-1, 0, 20)) := by
        show rd _ _ = _
        rw [HW.out, h0]
        have : wrt f (nl []) = none := by
          by_cases h4 : f = 4
          · rw [h4]; rfl
          · rw [wrt_lim h4]; rfl
        rw [this]
        rfl
      have HI : Hid (limI s.data.toList = -1) := limI_emp h0
      have h1 : (s.toList == [48]) = false := by rw [ByteArray.toList_eq, h0]; rfl
      have h2 : (s.toList == [49]) = false := by rw [ByteArray.toList_eq, h0]; rfl
      have h3 : ¬ (0 : Int) < s.size := by
        have : s.data.toList.length = s.size := by simp
        rw [h0] at this
        simp at this
        omega
      have HS : Hid (s.size ≤ maxLen) := by show s.size ≤ maxLen; unfold maxLen; omega
      clear h0
      by_cases h4 : f = 4
      · have h4' : (f == 4) = true := by simpa using h4
        go_wp2_with (go_at_call 26; refine (rlimit _ _ HS.out).mono ?_; rintro e w1 ⟨rfl, rfl⟩; rw [HI.out])
        go_ret3
        rw [HN.out]
        exact ⟨rfl, hbc⟩
      · have h4' : (f == 4) = false := by simpa using h4
        go_wp2_with (go_at_call 26; refine (rlimit _ _ HS.out).mono ?_; rintro e w1 ⟨rfl, rfl⟩; rw [HI.out])
        go_ret3
        rw [HN.out]
        exact ⟨rfl, hbc⟩
    have h3 : 0 < s.size := by
      have : s.data.toList.length = s.size := by simp
      rcases Nat.eq_zero_or_pos s.size with k | k
      · rw [k] at this
        exact absurd (List.length_eq_zero_iff.1 this) h0
      · exact k
    have h4 : (0 : Int) < s.size := by omega
    have hla := last_at h3
    obtain ⟨b, hb⟩ : ∃ b, s[s.size - 1] = b := ⟨_, rfl⟩
    rw [hb] at hla
    clear h0
    go_upto_if 37 with fail
    go_cut [1] (fun s1 wx => ∃ d : ByteArray, s1 = .string d ∧ Hid (d.data.toList = nl s.data.toList ∧ d.size ≤ maxLen) ∧ Below w.heap.size w wx)
    case first =>
      cases hk : ((b.toNat : Int) == 10) with
      | true =>
        have HX : Hid (nl s.data.toList = s.data.toList.dropLast) := by
          have hb10 : b = 10 := byte_int (n := 10) (by decide) (by have := beq_iff_eq.1 hk; omega)
          have hl : s.data.toList.getLast? = some 10 := by rw [hla, hb10]
          show nl _ = _
          unfold nl
          rw [if_pos hl]
        clear hla
        go_wp2_with fail
        go_meet
        refine ⟨_, rfl, ⟨?_, ?_⟩, hbc⟩
        · rw [HX.out, List.dropLast_eq_take, Lib.extract_data]
          simp
        · simp only [ByteArray.size_extract]
          unfold maxLen
          omega
      | false =>
        have HX : Hid (nl s.data.toList = s.data.toList) := by
          have hl : ¬ s.data.toList.getLast? = some 10 := by
            rw [hla]
            intro e
            have := Option.some.inj e
            subst this
            simp at hk
          show nl _ = _
          unfold nl
          rw [if_neg hl]
        clear hla
        go_wp2_with fail
        go_meet
        exact ⟨_, rfl, ⟨HX.out.symm, by unfold maxLen; omega⟩, hbc⟩
    case rest =>
      clear hbc
      obtain ⟨d, rfl, HX, hbc⟩ := hcut
      have HV : Hid (rd name.data.toList s.data.toList = rdO f (wrt f d.data.toList)) := by
        show rd _ _ = _
        rw [HX.out.1]
        exact HW.out
      have HS : Hid (d.size ≤ maxLen) := HX.out.2
      clear HX HW hla hb
      by_cases hf4 : f = 4
      · have hf4' : (f == 4) = true := by simpa using hf4
        by_cases h48 : d.data.toList = [48]
        · have t1 : (d.toList == [48]) = true := by rw [ByteArray.toList_eq, h48]; rfl
          have HI : Hid (limI d.data.toList = 0) := by show _ = _; rw [h48]; rfl
          have HE : Hid (rd name.data.toList s.data.toList = (f, 0, 0)) := by
            show _ = _
            rw [HV.out, h48, hf4, wrt_whole, if_pos rfl]
            rfl
          clear h48 hf4
          go_wp2_with (go_at_call 26; refine (rlimit _ _ HS.out).mono ?_; rintro e w1 ⟨rfl, rfl⟩; rw [HI.out])
          go_ret3
          rw [HE.out]
          exact ⟨rfl, hbc⟩
        · have t1 : (d.toList == [48]) = false := by rw [ByteArray.toList_eq]; simpa using h48
          by_cases h49 : d.data.toList = [49]
          · have t2 : (d.toList == [49]) = true := by rw [ByteArray.toList_eq, h49]; rfl
            have HI : Hid (limI d.data.toList = 1) := by show _ = _; rw [h49]; rfl
            have HE : Hid (rd name.data.toList s.data.toList = (f, 1, 0)) := by
              show _ = _
              rw [HV.out, h49, hf4, wrt_whole, if_neg (by decide), if_pos rfl]
              rfl
            clear h48 h49 hf4
            go_wp2_with (go_at_call 26; refine (rlimit _ _ HS.out).mono ?_; rintro e w1 ⟨rfl, rfl⟩; rw [HI.out])
            go_ret3
            rw [HE.out]
            exact ⟨rfl, hbc⟩
          · have t2 : (d.toList == [49]) = false := by rw [ByteArray.toList_eq]; simpa using h49
            have HE : Hid (rd name.data.toList s.data.toList = (-1, 0, 20)) := by
              show _ = _
              rw [HV.out, hf4, wrt_whole, if_neg h48, if_neg h49]
              rfl
            clear h48 h49 hf4
            go_wp2_with (go_at_call 26; refine (rlimit _ _ HS.out).mono ?_; rintro e w1 ⟨rfl, rfl⟩)
            go_ret3
            rw [HE.out]
            exact ⟨rfl, hbc⟩
      · have hf4' : (f == 4) = false := by simpa using hf4
        have HV2 : Hid (rd name.data.toList s.data.toList = rdO f ((limN d.data.toList).map fun n => (n : Int))) := by
          show _ = _
          rw [HV.out, wrt_lim hf4]
        clear hf4 HV
        rcases limI_cases d.data.toList with ⟨k1, k2⟩ | ⟨n, k1, k2, k3⟩
        · have HE : Hid (rd name.data.toList s.data.toList = (-1, 0, 20)) := by
            show _ = _
            rw [HV2.out, k1]
            rfl
          have HI : Hid (limI d.data.toList = -1) := k2
          clear k1 k2
          go_wp2_with (go_at_call 26; refine (rlimit _ _ HS.out).mono ?_; rintro e w1 ⟨rfl, rfl⟩; rw [HI.out])
          go_ret3
          rw [HE.out]
          exact ⟨rfl, hbc⟩
        · have HE : Hid (rd name.data.toList s.data.toList = (f, (n : Int), 0)) := by
            show _ = _
            rw [HV2.out, k1]
            rfl
          have HI : Hid (limI d.data.toList = n) := k2
          clear k1 k2
          go_wp2_with (go_at_call 26; refine (rlimit _ _ HS.out).mono ?_; rintro e w1 ⟨rfl, rfl⟩; rw [HI.out])
          go_ret3
          rw [HE.out]
          exact ⟨rfl, hbc⟩
end Go.Proofs.YtbkeoaombhhdiaaDoor
