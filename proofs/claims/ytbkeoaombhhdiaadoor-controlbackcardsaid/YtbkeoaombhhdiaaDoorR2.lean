/-
  The document's limit.
-/
import Derived.Test.YtbkeoaombhhdiaaDoorR1
import Derived.Deep.CutBlock
import Derived.Deep.DeepCutAuto
namespace Go.Proofs.YtbkeoaombhhdiaaDoor
open Go.RowKit

/-- What a limit's number is times. -/
def kT (T : Bs) : Nat := if T.getLast? = some 75 then 1024 else 1
theorem limI_cut {T : Bs} (h : T ≠ tMax) : limI T = match lim1 (1099511627776 / kT T) (cutK T) with | some n => ((n * kT T : Nat) : Int) | none => -1 := by
  unfold limI limN kT cutK
  rw [if_neg h]
  by_cases h2 : T.getLast? = some 75
  · rw [if_pos h2, if_pos h2, if_pos h2]
    have e : (1099511627776 / 1024 : Nat) = 1073741824 := by decide
    rw [e]
    cases lim1 1073741824 T.dropLast <;> rfl
  · rw [if_neg h2, if_neg h2, if_neg h2]
    have e : (1099511627776 / 1 : Nat) = 1099511627776 := by decide
    rw [e]
    cases lim1 1099511627776 T with
    | none => rfl
    | some n => simp
theorem lim1_no {most : Nat} {T : Bs} (h : isDgB T = false ∨ most < val T) : lim1 most T = none := by
  unfold lim1
  rw [if_neg]
  rintro ⟨h1, h2⟩
  rcases h with h | h
  · rw [h] at h1; cases h1
  · omega
theorem lim1_yes {most : Nat} {T : Bs} (h1 : isDgB T = true) (h2 : val T ≤ most) : lim1 most T = some (val T) := by
  unfold lim1
  rw [if_pos ⟨h1, h2⟩]
theorem long_val {T : Bs} (h : isDgB T = true) (hl : 13 < T.length) : 1099511627776 < val T := by
  have e := dg_val ((isDgB_iff T).1 h)
  rcases Nat.lt_or_ge (val T) (10 ^ 13) with k | k
  · have := dg_len_le 12 (val T) k
    rw [e] at this
    omega
  · have : (10 : Nat) ^ 13 = 10000000000000 := by decide
    omega
/-- The first k bytes are digits. -/
def upG (d : ByteArray) (k : Nat) : Bool := (d.data.toList.take k).all isD
/-- What the first k bytes come to. -/
def upV (d : ByteArray) (k : Nat) : Nat := val (d.data.toList.take k)
theorem upG_succ {d : ByteArray} {k : Nat} (h : k < d.size) (hg : upG d k = true) (hb : isD d[k] = true) : upG d (k + 1) = true := by
  unfold upG at *
  rw [take_snoc d k h, List.all_append, hg]
  simp [hb]
theorem upV_succ (d : ByteArray) (k : Nat) (h : k < d.size) : upV d (k + 1) = upV d k * 10 + (d[k].toNat - 48) := by
  unfold upV
  rw [take_snoc d k h, val_snoc]
theorem upV_lt {d : ByteArray} {k : Nat} (hg : upG d k = true) (hk : k ≤ 13) : upV d k < 10000000000000 := by
  have h1 := val_lt (s := d.data.toList.take k) (List.all_eq_true.1 hg)
  have h2 : (d.data.toList.take k).length ≤ 13 := by
    have := List.length_take_le k d.data.toList
    omega
  have h3 : (10 : Nat) ^ (d.data.toList.take k).length ≤ 10 ^ 13 := Nat.pow_le_pow_right (by decide) h2
  have : (10 : Nat) ^ 13 = 10000000000000 := by decide
  unfold upV
  omega
theorem upG_end {d : ByteArray} (h : upG d d.size = true) : d.data.toList.all isD = true := by
  unfold upG at h
  rwa [List.take_of_length_le (by simp)] at h
theorem upV_end (d : ByteArray) : upV d d.size = val d.data.toList := by
  unfold upV
  rw [List.take_of_length_le (by simp)]
theorem isD_int (b : UInt8) : isD b = (decide ((48 : Int) ≤ (b.toNat : Int)) && decide ((b.toNat : Int) ≤ 57)) := by
  unfold isD
  have e1 : ((48 : Int) ≤ (b.toNat : Int)) ↔ 48 ≤ b.toNat := by omega
  have e2 : ((b.toNat : Int) ≤ 57) ↔ b.toNat ≤ 57 := by omega
  rw [decide_eq_decide.2 e1, decide_eq_decide.2 e2]
theorem isDg_bad {d : ByteArray} {k : Nat} (h : k < d.size) (hb : isD d[k] = false) : isDgB d.data.toList = false := by
  have ha : d.data.toList.all isD = false := by
    rw [Bool.eq_false_iff]
    intro ha
    have := List.all_eq_true.1 ha d[k] (by
      have e : d[k] = d.data.toList[k]'(by simpa using h) := rfl
      rw [e]
      exact List.getElem_mem _)
    rw [hb] at this
    cases this
  unfold isDgB
  rw [ha]
  simp
theorem head_at {d : ByteArray} (h : 0 < d.size) : d.data.toList.head? = some d[0] := by
  have e : d[0] = d.data.toList[0]'(by simpa using h) := rfl
  rw [e, List.head?_eq_getElem?]
  simp
/-- A nought ahead of more. -/
theorem isDg_zero {d : ByteArray} (h : 1 < d.size) (hz : d[0] = 48) : isDgB d.data.toList = false := by
  have h1 := head_at (d := d) (by omega)
  rw [hz] at h1
  unfold isDgB
  rw [h1]
  have h2 : decide (d.data.toList.length = 1) = false := by simp; omega
  rw [h2]
  simp
theorem isDg_all {d : ByteArray} (h : 0 < d.size) (hz : d.size = 1 ∨ d[0] ≠ 48) (ha : d.data.toList.all isD = true) : isDgB d.data.toList = true := by
  have h1 := head_at (d := d) h
  have hne : d.data.toList ≠ [] := fun e => by
    rw [e] at h1
    cases h1
  unfold isDgB
  rw [ha]
  have e1 : decide (d.data.toList ≠ []) = true := by simpa using hne
  rw [e1]
  simp only [Bool.true_and, Bool.or_eq_true, decide_eq_true_eq]
  rcases hz with hz | hz
  · exact Or.inr (by simpa using hz)
  · refine Or.inl ?_
    rw [h1]
    intro e
    exact hz (Option.some.inj e)
theorem isDg_nil {d : ByteArray} (h : d.data.toList = []) : isDgB d.data.toList = false := by rw [h]; rfl

theorem last_at {s : ByteArray} (h : 0 < s.size) : s.data.toList.getLast? = some (s[s.size - 1]) := by
  have e : s[s.size - 1] = s.data.toList[s.size - 1]'(by simp; omega) := rfl
  rw [e, List.getLast?_eq_getElem?]
  simp
theorem limI_emp {s : ByteArray} (h : s.data.toList = []) : limI s.data.toList = -1 := by rw [h]; rfl
/-- What a limit's text is read as, its digits at hand. -/
def limD (d : Bs) (k : Nat) : Int := match lim1 (1099511627776 / k) d with | some n => ((n * k : Nat) : Int) | none => -1
theorem limD_no {d : Bs} {k : Nat} (h : isDgB d = false ∨ 1099511627776 / k < val d) : limD d k = -1 := by
  unfold limD
  rw [lim1_no h]
theorem limD_yes {d : Bs} {k : Nat} (h1 : isDgB d = true) (h2 : val d ≤ 1099511627776 / k) : limD d k = ((val d * k : Nat) : Int) := by
  unfold limD
  rw [lim1_yes h1 h2]
theorem byte_int {b : UInt8} {n : Nat} (hn : n < 256) (h : b.toNat = n) : b = UInt8.ofNat n := by
  apply UInt8.toNat_inj.1
  rw [h]
  simp
  omega
set_option maxRecDepth 100000 in
set_option maxHeartbeats 2000000 in
theorem rlimit (s : ByteArray) (w : World) (hs : s.size ≤ maxLen) : Calls Tryd.prog 26 #[.string s] w fun e w' => e = .returned (.int .i64 (limI s.data.toList)) ∧ w' = w := by
  unfold maxLen at hs
  by_cases h2 : s.data.toList = tMax
  · have h2' : (s.toList == [109, 97, 120]) = true := by rw [ByteArray.toList_eq, h2]; rfl
    have HL : Hid (limI s.data.toList = 1099511627776) := by
      show _ = _
      rw [h2]
      rfl
    clear h2
    go_enter Tryd.func26, Tryd.ntmps26
    go_wp2_with fail
    go_ret
    exact ⟨ret_int HL.out.symm, rfl⟩
  have h2' := not_max h2
  by_cases h0 : s.data.toList = []
  · have HL : Hid (limI s.data.toList = -1) := limI_emp h0
    have h1 := emp_yes h0
    have h3 : s.size = 0 := by
      have : s.data.toList.length = s.size := by simp
      rw [h0] at this
      simpa using this.symm
    have h4 : ¬ (0 : Int) < s.size := by omega
    clear h0 h2 h3
    go_enter Tryd.func26, Tryd.ntmps26
    go_wp2_with fail
    go_ret
    exact ⟨ret_int HL.out.symm, rfl⟩
  have h3 : 0 < s.size := by
    have : s.data.toList.length = s.size := by simp
    rcases Nat.eq_zero_or_pos s.size with k | k
    · rw [k] at this
      exact absurd (List.length_eq_zero_iff.1 this) h0
    · exact k
  have h4 : (0 : Int) < s.size := by omega
  have HD : Hid (limI s.data.toList = limD (cutK s.data.toList) (kT s.data.toList)) := limI_cut h2
  have hla := last_at h3
  obtain ⟨b, hb⟩ : ∃ b, s[s.size - 1] = b := ⟨_, rfl⟩
  rw [hb] at hla
  clear h2 h0
  go_enter Tryd.func26, Tryd.ntmps26
  go_upto_if 18 with fail
  go_cut [0, 3] (fun s0 s3 wx => ∃ (d : ByteArray) (k : Nat), s0 = .string d ∧ s3 = .int .i64 k ∧ Hid (d.data.toList = cutK s.data.toList ∧ k = kT s.data.toList ∧ d.size ≤ s.size) ∧ (k = 1 ∨ k = 1024) ∧ wx = w)
  case first =>
    cases hk : ((b.toNat : Int) == 75) with
    | true =>
      have HX : Hid (cutK s.data.toList = s.data.toList.dropLast ∧ 1024 = kT s.data.toList) := by
        have hb75 : b = 75 := byte_int (n := 75) (by decide) (by have := beq_iff_eq.1 hk; omega)
        have hl : s.data.toList.getLast? = some 75 := by rw [hla, hb75]
        unfold cutK kT
        rw [if_pos hl, if_pos hl]
        exact ⟨rfl, rfl⟩
      clear hla
      go_wp2_with fail
      go_meet
      refine ⟨_, 1024, rfl, rfl, ⟨?_, HX.out.2, ?_⟩, Or.inr rfl, rfl⟩
      · rw [HX.out.1, List.dropLast_eq_take, Lib.extract_data]
        simp
      · simp
    | false =>
      have HX : Hid (cutK s.data.toList = s.data.toList ∧ 1 = kT s.data.toList) := by
        have hl : ¬ s.data.toList.getLast? = some 75 := by
          rw [hla]
          intro e
          have := Option.some.inj e
          subst this
          simp at hk
        unfold cutK kT
        rw [if_neg hl, if_neg hl]
        exact ⟨rfl, rfl⟩
      clear hla
      go_wp2_with fail
      go_meet
      exact ⟨_, 1, rfl, rfl, ⟨HX.out.1.symm, HX.out.2, Nat.le_refl _⟩, Or.inl rfl, rfl⟩
  case rest =>
    obtain ⟨d, k, rfl, rfl, HX, hk, rfl⟩ := hcut
    have hdz : d.size ≤ 9223372036854775807 := by have := HX.out.2.2; omega
    have HV : Hid (limI s.data.toList = limD d.data.toList k) := by
      show _ = _
      rw [HX.out.1, HX.out.2.1]
      exact HD.out
    clear HX HD hla
    by_cases hd0 : d.data.toList = []
    · have HL : Hid (limI s.data.toList = -1) := HV.out.trans (limD_no (Or.inl (isDg_nil hd0)))
      have h1 := emp_yes hd0
      clear hd0
      go_wp2_with fail
      go_ret
      exact ⟨ret_int HL.out.symm, rfl⟩
    have hd1 : 0 < d.size := by
      have : d.data.toList.length = d.size := by simp
      rcases Nat.eq_zero_or_pos d.size with k | k
      · rw [k] at this
        exact absurd (List.length_eq_zero_iff.1 this) hd0
      · exact k
    have h1 := emp_no hd0
    clear hd0
    have hdl : d.data.toList.length = d.size := by simp
    by_cases hd13 : (13 : Int) < d.size
    · have HL : Hid (limI s.data.toList = -1) := HV.out.trans (limD_no (by
        cases hg : isDgB d.data.toList with
        | false => exact Or.inl rfl
        | true =>
          refine Or.inr ?_
          have := long_val hg (by omega)
          rcases hk with rfl | rfl
          · omega
          · omega))
      go_wp2_with fail
      go_ret
      exact ⟨ret_int HL.out.symm, rfl⟩
    by_cases hbad : ((d[0].toNat : Int) == 48) = true ∧ (1 : Int) < d.size
    · obtain ⟨hz, hd2⟩ := hbad
      have HL : Hid (limI s.data.toList = -1) := HV.out.trans (limD_no (Or.inl (isDg_zero (by omega) (byte_int (n := 48) (by decide) (by have := beq_iff_eq.1 hz; omega)))))
      go_wp2_with fail
      go_ret
      exact ⟨ret_int HL.out.symm, rfl⟩
    have hw : (((d[0].toNat : Int) == 48) = true ∧ ¬ (1 : Int) < d.size) ∨ ((d[0].toNat : Int) == 48) = false := by
      cases hz : ((d[0].toNat : Int) == 48) with
      | true => exact Or.inl ⟨rfl, fun h => hbad ⟨hz, h⟩⟩
      | false => exact Or.inr rfl
    have HG : Hid (d.data.toList.all isD = true → isDgB d.data.toList = true) := by
      refine isDg_all hd1 ?_
      rcases hw with ⟨-, h⟩ | hz
      · exact Or.inl (by omega)
      · refine Or.inr (fun e => ?_)
        rw [e] at hz
        simp at hz
    clear hbad hdl
    rcases hw with ⟨hz, hd2⟩ | hz
    all_goals
      go_wp2_with fail
      go_loop [4, 5] (fun n i => ∃ j : Nat, j ≤ d.size ∧ i = .int .i64 j ∧ n = .int .i64 (upV d j) ∧ Hid (upG d j = true)) (fun _ i => d.size - (intOf i).toNat)
      case atStart => exact ⟨0, Nat.zero_le _, rfl, rfl, rfl⟩
      case round =>
        obtain ⟨j, hj, rfl, rfl, HU⟩ := hrel
        obtain ⟨v, hv⟩ : ∃ v, upV d j = v := ⟨_, rfl⟩
        have hvb : v < 10000000000000 := by rw [← hv]; exact upV_lt HU.out (by omega)
        rw [hv]
        by_cases hlt : (j : Int) < d.size
        · obtain ⟨c, hc⟩ : ∃ c, d[j] = c := ⟨_, rfl⟩
          have hc8 := c.toNat_lt
          cases hdg : isD c with
          | true =>
            have HN : Hid (upG d (j + 1) = true ∧ upV d (j + 1) = v * 10 + (c.toNat - 48)) := by
              refine ⟨upG_succ (by omega) HU.out (by rw [hc]; exact hdg), ?_⟩
              rw [upV_succ d j (by omega), hv, hc]
            rw [isD_int, Bool.and_eq_true, decide_eq_true_eq, decide_eq_true_eq] at hdg
            obtain ⟨g1, g2⟩ := hdg
            clear hv
            go_wp2_with fail
            go_round
            case rel =>
              refine ⟨j + 1, by omega, by go_num, ?_, HN.out.1⟩
              rw [HN.out.2]
              congr 1
              omega
            case measure => simp [intOf]; omega
          | false =>
            have HL : Hid (limI s.data.toList = -1) := HV.out.trans (limD_no (Or.inl (isDg_bad (k := j) (by omega) (by rw [hc]; exact hdg))))
            have hdg' : ¬ isD c = true := by rw [hdg]; simp
            rw [isD_int, Bool.and_eq_true, decide_eq_true_eq, decide_eq_true_eq] at hdg'
            clear hdg hv
            by_cases g1 : (48 : Int) ≤ c.toNat
            · have g2 : (57 : Int) < c.toNat := by omega
              go_wp2_with fail
              go_ret
              exact ⟨ret_int HL.out.symm, rfl⟩
            · go_wp2_with fail
              go_ret
              exact ⟨ret_int HL.out.symm, rfl⟩
        · obtain rfl : j = d.size := by omega
          have hvv : val d.data.toList = v := by rw [← upV_end, hv]
          have hgg := HG.out (upG_end HU.out)
          clear hv
          rcases hk with rfl | rfl
          · by_cases hm : v ≤ 1099511627776
            · have HL : Hid (limI s.data.toList = ((v * 1 : Nat) : Int)) := by
                have := HV.out.trans (limD_yes (k := 1) hgg (by rw [hvv]; omega))
                rwa [hvv] at this
              clear hvv
              go_wp2_with fail
              go_ret
              exact ⟨ret_int (by rw [HL.out]; omega), rfl⟩
            · have HL : Hid (limI s.data.toList = -1) := HV.out.trans (limD_no (k := 1) (Or.inr (by rw [hvv]; omega)))
              clear hvv
              go_wp2_with fail
              go_ret
              exact ⟨ret_int HL.out.symm, rfl⟩
          · by_cases hm : v ≤ 1073741824
            · have HL : Hid (limI s.data.toList = ((v * 1024 : Nat) : Int)) := by
                have := HV.out.trans (limD_yes (k := 1024) hgg (by rw [hvv]; omega))
                rwa [hvv] at this
              clear hvv
              go_wp2_with fail
              go_ret
              exact ⟨ret_int (by rw [HL.out]; omega), rfl⟩
            · have HL : Hid (limI s.data.toList = -1) := HV.out.trans (limD_no (k := 1024) (Or.inr (by rw [hvv]; omega)))
              clear hvv
              go_wp2_with fail
              go_ret
              exact ⟨ret_int HL.out.symm, rfl⟩
end Go.Proofs.YtbkeoaombhhdiaaDoor
