/-
  Read and Show: files, limits.
-/
import Derived.Test.YtbkeoaombhhdiaaDoorP2
namespace Go.Proofs.YtbkeoaombhhdiaaDoor
open Go.RowKit

/-! ### what stands at a text's end -/
theorem sufx (c : UInt8) (T : Bs) : Lib.hasSuffix T [c] = decide (T.getLast? = some c) := by
  unfold Lib.hasSuffix
  rw [Bool.eq_iff_iff, decide_eq_true_eq, List.isSuffixOf_iff_suffix]
  constructor
  · rintro ⟨t, rfl⟩
    simp
  · intro h
    have hne : T ≠ [] := fun e => by rw [e] at h; cases h
    refine ⟨T.dropLast, ?_⟩
    have : T.getLast hne = c := by
      rw [List.getLast?_eq_some_getLast hne] at h
      exact Option.some.inj h
    rw [← this]
    exact List.dropLast_concat_getLast hne
theorem trimS (c : UInt8) (T : Bs) : Lib.trimSuffix T [c] = if T.getLast? = some c then T.dropLast else T := by
  unfold Lib.trimSuffix
  rw [sufx]
  by_cases h : T.getLast? = some c
  · rw [if_pos h, if_pos (by simpa using h)]
    rw [List.dropLast_eq_take]
    rfl
  · rw [if_neg h, if_neg (by simpa using h)]
theorem pnl (s : ByteArray) (w : World) (hs : s.size ≤ maxLen) : Calls Tryd.prog 25 #[.string s, .string ⟨#[10]⟩] w fun e w' => e = .returned (.string (str (nl s.data.toList))) ∧ w' = w := by
  refine (Tryd.strings_TrimSuffix s ⟨#[10]⟩ w (by unfold maxLen at hs; omega)).mono ?_
  rintro e w' ⟨rfl, rfl⟩
  have e1 : (⟨#[10]⟩ : ByteArray).data.toList = [10] := rfl
  rw [e1, trimS]
  exact ⟨rfl, rfl⟩
/-- What is ahead of a K. -/
def cutK (T : Bs) : Bs := if T.getLast? = some 75 then T.dropLast else T
theorem pcutK (s : ByteArray) (w : World) (hs : s.size ≤ maxLen) : Calls Tryd.prog 38 #[.string s, .string ⟨#[75]⟩] w fun e w' => e = .returned (.tuple #[.string (str (cutK s.data.toList)), .bool (decide (s.data.toList.getLast? = some 75))]) ∧ w' = w := by
  refine (Tryd.strings_CutSuffix s ⟨#[75]⟩ w (by unfold maxLen at hs; omega)).mono ?_
  rintro e w' ⟨rfl, rfl⟩
  have e1 : (⟨#[75]⟩ : ByteArray).data.toList = [75] := rfl
  rw [e1, trimS, sufx]
  exact ⟨rfl, rfl⟩
theorem cutK_le (s : ByteArray) : (str (cutK s.data.toList)).size ≤ s.size := by
  show (cutK s.data.toList).length ≤ _
  unfold cutK
  split
  · simp
  · simp
theorem nl_le (s : ByteArray) : (str (nl s.data.toList)).size ≤ s.size := by
  show (nl s.data.toList).length ≤ _
  unfold nl
  split
  · simp
  · simp

/-! ### numbers up to -/
set_option maxRecDepth 100000 in
theorem pupto (most : Int) (s : ByteArray) (w : World) (hs : s.size ≤ maxLen) (ht : Tabs w) :
    Calls Tryd.prog 37 #[.int .i64 most, .string s] w fun e w' => e = .returned (.tuple #[.int .i64 (numN s.data.toList), .bool (upOk most s.data.toList)]) ∧ Below w.heap.size w w' := by
  obtain ⟨n, hn⟩ : ∃ n, numN s.data.toList = n := ⟨_, rfl⟩
  obtain ⟨b, hb⟩ : ∃ b, numOk s.data.toList = b := ⟨_, rfl⟩
  have HU : Hid (upOk most s.data.toList = (b && (decide (0 ≤ n) && decide (n ≤ most)))) := by
    show upOk most s.data.toList = _
    unfold upOk
    rw [hn, hb]
  rw [hn]
  by_cases h1 : 0 ≤ n <;> by_cases h2 : n ≤ most <;> cases b
  all_goals go_enter Tryd.func37, Tryd.ntmps37
  all_goals go_wp2_with (go_at_call 33; refine (pnumber _ _ hs ht).mono ?_; rintro e w1 ⟨rfl, hb1⟩; rw [hn, hb])
  all_goals go_ret2
  all_goals refine ⟨ret_num rfl ?_, hb1⟩
  all_goals rw [HU.out]
  all_goals simp [*]

/-! ### what is written -/
def wrt (file : Int) (T : Bs) : Option Int :=
  if file = 4 then (if upOk 1 T = true then some (numN T) else none)
  else if T = tMax then some 1099511627776
  else if T.getLast? = some 75 then (if upOk 1073741824 T.dropLast = true then some (numN T.dropLast * 1024) else none)
  else if upOk 1099511627776 T = true then some (numN T) else none
theorem wrt_lim {file : Int} (h : file ≠ 4) (T : Bs) : wrt file T = (limN T).map fun n => (n : Int) := by
  unfold wrt limN
  rw [if_neg h]
  by_cases h1 : T = tMax
  · rw [if_pos h1, if_pos h1]; rfl
  rw [if_neg h1, if_neg h1]
  by_cases h2 : T.getLast? = some 75
  · rw [if_pos h2, if_pos h2, lim1_up (by decide)]
    by_cases h3 : upOk (1073741824 : Nat) T.dropLast = true
    · have e := upOk_val (most := 1073741824) (by decide) h3
      have h3' : upOk 1073741824 T.dropLast = true := h3
      rw [if_pos h3', if_pos h3, e]
      simp
    · have h3' : ¬ upOk 1073741824 T.dropLast = true := h3
      rw [if_neg h3', if_neg h3]
      rfl
  · rw [if_neg h2, if_neg h2, lim1_up (by decide)]
    by_cases h3 : upOk (1099511627776 : Nat) T = true
    · have e := upOk_val (most := 1099511627776) (by decide) h3
      have h3' : upOk 1099511627776 T = true := h3
      rw [if_pos h3', if_pos h3, e]
      simp
    · have h3' : ¬ upOk 1099511627776 T = true := h3
      rw [if_neg h3', if_neg h3]
      rfl
theorem wrt_whole (T : Bs) : wrt 4 T = if T = [48] then some 0 else if T = [49] then some 1 else none := by
  unfold wrt
  rw [if_pos rfl]
  by_cases h : upOk 1 T = true
  · have h' : upOk (1 : Nat) T = true := h
    rw [if_pos h, upOk_val (by decide) h']
    obtain ⟨h1, h2⟩ := (upOk_iff (by decide) T).1 h'
    have e := dg_val ((isDgB_iff T).1 h1)
    have hv : val T = 0 ∨ val T = 1 := by omega
    rcases hv with hv | hv
    · rw [hv] at e ⊢
      have : T = [48] := by rw [← e]; rfl
      rw [if_pos this]; rfl
    · rw [hv] at e ⊢
      have : T = [49] := by rw [← e]; rfl
      rw [this]; rfl
  · rw [if_neg h]
    by_cases h1 : T = [48]
    · subst h1
      exact absurd (by decide) h
    · by_cases h2 : T = [49]
      · subst h2
        exact absurd (by decide) h
      · rw [if_neg h1, if_neg h2]
/-- What is told of what is written. -/
def rdO (f : Int) : Option Int → Int × Int × Int
  | some n => (f, n, 0)
  | none => (-1, 0, 20)
/-- Read, by what is written. -/
theorem rd_wrt (name T : Bs) : rd name T = if fileI name = -1 then ((-1, 0, 2) : Int × Int × Int) else rdO (fileI name) (wrt (fileI name) (nl T)) := by
  unfold rd
  by_cases h1 : fileI name = -1
  · rw [if_pos h1, if_pos h1]
  rw [if_neg h1, if_neg h1]
  by_cases h2 : fileI name = 4
  · rw [if_pos h2, h2, wrt_whole]
    by_cases h3 : nl T = [48]
    · rw [if_pos h3, if_pos h3]; rfl
    · rw [if_neg h3, if_neg h3]
      by_cases h4 : nl T = [49]
      · rw [if_pos h4, if_pos h4]; rfl
      · rw [if_neg h4, if_neg h4]; rfl
  · rw [if_neg h2, wrt_lim h2]
    cases limN (nl T) <;> rfl
/-- What a pair of a number and whether it is one tells. -/
def Tells (e : Ending) (o : Option Int) : Prop := ∃ n, e = .returned (.tuple #[.int .i64 n, .bool o.isSome]) ∧ ∀ x, o = some x → n = x
theorem Tells.mk {n : Int} {b : Bool} {o : Option Int} (h1 : b = o.isSome) (h2 : ∀ x, o = some x → n = x) : Tells (.returned (.tuple #[.int .i64 n, .bool b])) o := ⟨n, by rw [h1], h2⟩
theorem Tells.ite {n : Int} {b : Bool} {p : Bool} {m : Int} (h1 : b = p) (h2 : p = true → n = m) : Tells (.returned (.tuple #[.int .i64 n, .bool b])) (if p = true then some m else none) := by
  subst h1
  cases b
  · exact Tells.mk rfl (fun x h => by cases h)
  · exact Tells.mk rfl (fun x h => by have := Option.some.inj h; rw [← this]; exact h2 rfl)
theorem wrt4 (T : Bs) : wrt 4 T = if upOk 1 T = true then some (numN T) else none := by unfold wrt; rw [if_pos rfl]
theorem wrtM {file : Int} (h : file ≠ 4) {T : Bs} (h1 : T = tMax) : wrt file T = some 1099511627776 := by unfold wrt; rw [if_neg h, if_pos h1]
theorem wrtK {file : Int} (h : file ≠ 4) {T : Bs} (h1 : T ≠ tMax) (h2 : T.getLast? = some 75) : wrt file T = if upOk 1073741824 (cutK T) = true then some (numN (cutK T) * 1024) else none := by
  unfold wrt cutK; rw [if_neg h, if_neg h1, if_pos h2, if_pos h2]
theorem wrtN {file : Int} (h : file ≠ 4) {T : Bs} (h1 : T ≠ tMax) (h2 : T.getLast? ≠ some 75) : wrt file T = if upOk 1099511627776 T = true then some (numN T) else none := by
  unfold wrt; rw [if_neg h, if_neg h1, if_neg h2]
theorem not_max {s : ByteArray} (h : s.data.toList ≠ tMax) : (s.toList == [109, 97, 120]) = false := by
  rw [Bool.eq_false_iff, ByteArray.toList_eq]
  intro e
  exact h (beq_iff_eq.1 e)
theorem upOk_bounds {most : Int} {T : Bs} (h : upOk most T = true) : 0 ≤ numN T ∧ numN T ≤ most := by
  unfold upOk at h
  simp only [Bool.and_eq_true, decide_eq_true_eq] at h
  exact h.2
set_option maxRecDepth 100000 in
theorem pwritten (file : Int) (s : ByteArray) (w : World) (hs : s.size ≤ maxLen) (ht : Tabs w) :
    Calls Tryd.prog 24 #[.int .i64 file, .string s] w fun e w' => Tells e (wrt file s.data.toList) ∧ Below w.heap.size w w' := by
  have HT : Hid (Tabs w) := ht
  have HZ : Hid (s.size ≤ maxLen) := hs
  by_cases h1 : file = 4
  · have h1' : (file == 4) = true := by simpa using h1
    have HW : Hid (wrt file s.data.toList = if upOk 1 s.data.toList = true then some (numN s.data.toList) else none) := by rw [h1]; exact wrt4 _
    clear h1
    go_enter Tryd.func24, Tryd.ntmps24
    go_wp2_with (go_at_call 37; refine (pupto _ _ _ HZ.out HT.out).mono ?_; rintro e w1 ⟨rfl, hb1⟩)
    go_ret2
    rw [HW.out]
    exact ⟨Tells.ite rfl (fun _ => rfl), hb1⟩
  · have h1' : (file == 4) = false := by simpa using h1
    by_cases h2 : s.data.toList = tMax
    · have h2' : (s.toList == [109, 97, 120]) = true := by rw [ByteArray.toList_eq, h2]; rfl
      have HW : Hid (wrt file s.data.toList = some 1099511627776) := wrtM h1 h2
      clear h1 h2
      go_enter Tryd.func24, Tryd.ntmps24
      go_wp2_with fail
      go_ret2
      rw [HW.out]
      exact ⟨Tells.mk rfl (fun x h => Option.some.inj h), Below.refl _ _⟩
    · have h2' := not_max h2
      by_cases h3 : s.data.toList.getLast? = some 75
      · have h3' : decide (s.data.toList.getLast? = some 75) = true := by simpa using h3
        have HK : Hid ((str (cutK s.data.toList)).size ≤ maxLen) := by
          have := cutK_le s
          show _ ≤ _
          omega
        have HW : Hid (wrt file s.data.toList = if upOk 1073741824 (cutK s.data.toList) = true then some (numN (cutK s.data.toList) * 1024) else none) := wrtK h1 h2 h3
        clear h1 h2 h3
        go_enter Tryd.func24, Tryd.ntmps24
        go_wp2_with (first | (go_at_call 38; refine (pcutK _ _ HZ.out).mono ?_; rintro e w1 ⟨rfl, rfl⟩; rw [h3']) | (go_at_call 37; refine (pupto _ _ _ HK.out HT.out).mono ?_; rintro e w1 ⟨rfl, hb1⟩))
        go_ret2
        rw [HW.out]
        refine ⟨Tells.ite rfl (fun h => ?_), hb1⟩
        have := upOk_bounds h
        simp only [wrap64]
        have e1 : (⟨(str (cutK s.data.toList)).data⟩ : ByteArray).data.toList = cutK s.data.toList := rfl
        omega
      · have h3' : decide (s.data.toList.getLast? = some 75) = false := by simpa using h3
        have HW : Hid (wrt file s.data.toList = if upOk 1099511627776 s.data.toList = true then some (numN s.data.toList) else none) := wrtN h1 h2 h3
        clear h1 h2 h3
        go_enter Tryd.func24, Tryd.ntmps24
        go_wp2_with (first | (go_at_call 38; refine (pcutK _ _ HZ.out).mono ?_; rintro e w1 ⟨rfl, rfl⟩; rw [h3']) | (go_at_call 37; refine (pupto _ _ _ HZ.out HT.out).mono ?_; rintro e w1 ⟨rfl, hb1⟩))
        go_ret2
        rw [HW.out]
        exact ⟨Tells.ite rfl (fun _ => rfl), hb1⟩
end Go.Proofs.YtbkeoaombhhdiaaDoor
