/-
  The program's fileOf, Read and Show.
-/
import Derived.Test.YtbkeoaombhhdiaaDoorP3
namespace Go.Proofs.YtbkeoaombhhdiaaDoor
open Go.RowKit

theorem ret_int {a b : Int} (h : a = b) : Ending.returned (.int .i64 a) = .returned (.int .i64 b) := by rw [h]
theorem sm (T : Bs) (s : ByteArray) : (s.toList == T) = decide (s.data.toList = T) := by
  rw [ByteArray.toList_eq, Bool.eq_iff_iff, beq_iff_eq, decide_eq_true_eq]
theorem sm_yes {T : Bs} {s : ByteArray} (h : (s.toList == T) = true) : s.data.toList = T := by rw [sm] at h; simpa using h
theorem sm_no {T : Bs} {s : ByteArray} (h : (s.toList == T) = false) : s.data.toList ≠ T := by rw [sm] at h; simpa using h
theorem emp_yes {t : ByteArray} (h : t.data.toList = []) : t.toList.isEmpty = true := by rw [ByteArray.toList_eq, h]; rfl
theorem emp_no {t : ByteArray} (h : t.data.toList ≠ []) : t.toList.isEmpty = false := by
  rw [ByteArray.toList_eq]
  cases hh : t.data.toList with
  | nil => exact absurd hh h
  | cons a l => rfl
theorem ba_ext {a b : ByteArray} (h : a.data.toList = b.data.toList) : a = b := by
  cases a; cases b
  congr 1
  exact Array.toList_inj.1 h
/-- The five names. -/
def fiv : Value := .agg #[.string (str tMin), .string (str tLow), .string (str tMaxF), .string (str tSwap), .string (str tOom)]
set_option maxRecDepth 100000 in
set_option maxHeartbeats 4000000 in
theorem pfileOf (s : ByteArray) (w : World) (ht : Tabs w) : Calls Tryd.prog 23 #[.string s] w fun e w' => e = .returned (.int .i64 (fileI s.data.toList)) ∧ w' = w := by
  have c0 := ht.files 0 tMin rfl
  have c1 := ht.files 1 tLow rfl
  have c2 := ht.files 2 tMaxF rfl
  have c3 := ht.files 3 tSwap rfl
  have c4 := ht.files 4 tOom rfl
  have i0 : ∀ w, (Instr.index 61 (.agg #[.string ⟨List.toArray tMin⟩, .string ⟨List.toArray tLow⟩, .string ⟨List.toArray tMaxF⟩, .string ⟨List.toArray tSwap⟩, .string ⟨List.toArray tOom⟩]) (.int .i64 0)).run Tryd.prog w = .ok (.string ⟨List.toArray tMin⟩) w := fun _ => by kernel_rfl
  have i1 : ∀ w, (Instr.index 61 (.agg #[.string ⟨List.toArray tMin⟩, .string ⟨List.toArray tLow⟩, .string ⟨List.toArray tMaxF⟩, .string ⟨List.toArray tSwap⟩, .string ⟨List.toArray tOom⟩]) (.int .i64 1)).run Tryd.prog w = .ok (.string ⟨List.toArray tLow⟩) w := fun _ => by kernel_rfl
  have i2 : ∀ w, (Instr.index 61 (.agg #[.string ⟨List.toArray tMin⟩, .string ⟨List.toArray tLow⟩, .string ⟨List.toArray tMaxF⟩, .string ⟨List.toArray tSwap⟩, .string ⟨List.toArray tOom⟩]) (.int .i64 2)).run Tryd.prog w = .ok (.string ⟨List.toArray tMaxF⟩) w := fun _ => by kernel_rfl
  have i3 : ∀ w, (Instr.index 61 (.agg #[.string ⟨List.toArray tMin⟩, .string ⟨List.toArray tLow⟩, .string ⟨List.toArray tMaxF⟩, .string ⟨List.toArray tSwap⟩, .string ⟨List.toArray tOom⟩]) (.int .i64 3)).run Tryd.prog w = .ok (.string ⟨List.toArray tSwap⟩) w := fun _ => by kernel_rfl
  have i4 : ∀ w, (Instr.index 61 (.agg #[.string ⟨List.toArray tMin⟩, .string ⟨List.toArray tLow⟩, .string ⟨List.toArray tMaxF⟩, .string ⟨List.toArray tSwap⟩, .string ⟨List.toArray tOom⟩]) (.int .i64 4)).run Tryd.prog w = .ok (.string ⟨List.toArray tOom⟩) w := fun _ => by kernel_rfl
  obtain ⟨r, hr⟩ : ∃ r, fileI s.data.toList = r := ⟨_, rfl⟩
  rw [hr]
  unfold fileI at hr
  have HR : Hid ((if s.data.toList = tMin then 0 else if s.data.toList = tLow then 1 else if s.data.toList = tMaxF then 2 else if s.data.toList = tSwap then 3 else if s.data.toList = tOom then 4 else -1) = r) := hr
  clear hr
  go_enter Tryd.func23, Tryd.ntmps23
  go_wp2_with fail
  refine wp_loop_rounds 6 ?_
  rw [rounds_succ]
  cases h0 : (s.toList == tMin)
  rotate_left
  · go_wp2_with fail
    go_ret
    have := HR.out
    rw [if_pos (sm_yes h0)] at this
    exact ⟨ret_int this, rfl⟩
  go_wp2_with fail
  rw [rounds_succ]
  cases h1 : (s.toList == tLow)
  rotate_left
  · go_wp2_with fail
    go_ret
    have := HR.out
    rw [if_neg (sm_no h0), if_pos (sm_yes h1)] at this
    exact ⟨ret_int this, rfl⟩
  go_wp2_with fail
  rw [rounds_succ]
  cases h2 : (s.toList == tMaxF)
  rotate_left
  · go_wp2_with fail
    go_ret
    have := HR.out
    rw [if_neg (sm_no h0), if_neg (sm_no h1), if_pos (sm_yes h2)] at this
    exact ⟨ret_int this, rfl⟩
  go_wp2_with fail
  rw [rounds_succ]
  cases h3 : (s.toList == tSwap)
  rotate_left
  · go_wp2_with fail
    go_ret
    have := HR.out
    rw [if_neg (sm_no h0), if_neg (sm_no h1), if_neg (sm_no h2), if_pos (sm_yes h3)] at this
    exact ⟨ret_int this, rfl⟩
  go_wp2_with fail
  rw [rounds_succ]
  cases h4 : (s.toList == tOom)
  rotate_left
  · go_wp2_with fail
    go_ret
    have := HR.out
    rw [if_neg (sm_no h0), if_neg (sm_no h1), if_neg (sm_no h2), if_neg (sm_no h3), if_pos (sm_yes h4)] at this
    exact ⟨ret_int this, rfl⟩
  go_wp2_with fail
  rw [rounds_succ]
  go_wp2_with fail
  go_ret
  have := HR.out
  rw [if_neg (sm_no h0), if_neg (sm_no h1), if_neg (sm_no h2), if_neg (sm_no h3), if_neg (sm_no h4)] at this
  exact ⟨ret_int this, rfl⟩

/-- Three numbers told. -/
def three (r : Int × Int × Int) : Ending := .returned (.tuple #[.int .i64 r.1, .int .i64 r.2.1, .int .i64 r.2.2])
set_option maxRecDepth 100000 in
set_option maxHeartbeats 1000000 in
theorem pread (name s : ByteArray) (w : World) (hs : s.size ≤ maxLen) (ht : Tabs w) :
    Calls Tryd.prog 10 #[.string name, .string s] w fun e w' => e = three (rd name.data.toList s.data.toList) ∧ Below w.heap.size w w' := by
  have HT : Hid (Tabs w) := ht
  have HZ : Hid (s.size ≤ maxLen) := hs
  have HY : Hid ((str (nl s.data.toList)).size ≤ maxLen) := by
    have := nl_le s
    show _ ≤ _
    omega
  obtain ⟨f, hf⟩ : ∃ f, fileI name.data.toList = f := ⟨_, rfl⟩
  have HR : Hid (rd name.data.toList s.data.toList = if f = -1 then ((-1, 0, 2) : Int × Int × Int) else rdO f (wrt f (nl s.data.toList))) := by
    show rd name.data.toList s.data.toList = _
    rw [rd_wrt, hf]
  by_cases h1 : f = -1
  · have h1' : (f == -1) = true := by simpa using h1
    go_enter Tryd.func10, Tryd.ntmps10
    go_wp2_with (go_at_call 23; refine (pfileOf _ _ HT.out).mono ?_; rintro e w1 ⟨rfl, rfl⟩; rw [hf])
    go_ret3
    rw [HR.out, if_pos h1]
    exact ⟨rfl, Below.refl _ _⟩
  · have h1' : (f == -1) = false := by simpa using h1
    obtain ⟨o, ho⟩ : ∃ o, wrt f (nl s.data.toList) = o := ⟨_, rfl⟩
    cases o with
    | none =>
      go_enter Tryd.func10, Tryd.ntmps10
      go_wp2_with (first | (go_at_call 23; refine (pfileOf _ _ HT.out).mono ?_; rintro e w1 ⟨rfl, rfl⟩; rw [hf]) | (go_at_call 25; refine (pnl _ _ HZ.out).mono ?_; rintro e w1 ⟨rfl, rfl⟩) | (go_at_call 24; refine (pwritten _ _ _ HY.out HT.out).mono ?_; rintro e w1 ⟨⟨n, rfl, hn⟩, hb1⟩; rw [show (⟨(str (nl s.data.toList)).data⟩ : ByteArray).data.toList = nl s.data.toList from rfl, ho]))
      go_ret3
      rw [HR.out, if_neg h1, ho]
      exact ⟨rfl, hb1⟩
    | some x =>
      go_enter Tryd.func10, Tryd.ntmps10
      go_wp2_with (first | (go_at_call 23; refine (pfileOf _ _ HT.out).mono ?_; rintro e w1 ⟨rfl, rfl⟩; rw [hf]) | (go_at_call 25; refine (pnl _ _ HZ.out).mono ?_; rintro e w1 ⟨rfl, rfl⟩) | (go_at_call 24; refine (pwritten _ _ _ HY.out HT.out).mono ?_; rintro e w1 ⟨⟨n, rfl, hn⟩, hb1⟩; rw [show (⟨(str (nl s.data.toList)).data⟩ : ByteArray).data.toList = nl s.data.toList from rfl, ho]))
      go_ret3
      rw [HR.out, if_neg h1, ho, ← hn x ho]
      exact ⟨rfl, hb1⟩
set_option maxRecDepth 100000 in
theorem pshow (n : Int) (h : i64 n) (w : World) (ht : Tabs w) : Calls Tryd.prog 12 #[.int .i64 n] w fun e w' => e = .returned (.string (str (shw n))) ∧ Below w.heap.size w w' := by
  have HT : Hid (Tabs w) := ht
  have HN : Hid (i64 n) := h
  by_cases h1 : n = 1099511627776
  · have h1' : (n == 1099511627776) = true := by simpa using h1
    have e : shw n = tMax := by unfold shw; rw [if_pos h1]
    rw [e]
    clear h1
    go_enter Tryd.func12, Tryd.ntmps12
    go_wp2_with fail
    go_ret
    exact ⟨rfl, Below.refl _ _⟩
  · have h1' : (n == 1099511627776) = false := by simpa using h1
    have e : shw n = dgI n := by unfold shw; rw [if_neg h1]
    rw [e]
    clear h1
    go_enter Tryd.func12, Tryd.ntmps12
    go_wp2_with (go_at_call 27; refine (pitoa _ HN.out _ HT.out).mono ?_; rintro e w1 ⟨rfl, hb1⟩)
    go_ret
    exact ⟨rfl, hb1⟩
end Go.Proofs.YtbkeoaombhhdiaaDoor
