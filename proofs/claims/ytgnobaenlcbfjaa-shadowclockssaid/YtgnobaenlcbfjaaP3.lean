/-
  The program's log as it lies in memory; the contracts of New, Went, Came, Clock, Back.
-/
import Derived.Test.YtgnobaenlcbfjaaP2
import Derived.Test.YtgnobaenlcbfjaaRows
namespace Go.Proofs.Ytgnobaenlcbfjaa
open Go.RowKit

/-- All blocks but p as they were; more may have been made. -/
structure Apart (p : Nat) (w w' : World) : Prop where
  os : w'.os = w.os
  tape : w'.tape = w.tape
  output : w'.output = w.output
  size : w.heap.size ≤ w'.heap.size
  block : ∀ k, k < w.heap.size → k ≠ p → w'.heap[k]? = w.heap[k]?
theorem Apart.refl (p : Nat) (w : World) : Apart p w w := ⟨rfl, rfl, rfl, Nat.le_refl _, fun _ _ _ => rfl⟩
theorem Apart.trans {p : Nat} {u v w : World} (h : Apart p u v) (k : Apart p v w) : Apart p u w :=
  ⟨k.os.trans h.os, k.tape.trans h.tape, k.output.trans h.output, Nat.le_trans h.size k.size, fun i hi hn => (k.block i (Nat.lt_of_lt_of_le hi h.size) hn).trans (h.block i hi hn)⟩
theorem Apart.below {p B : Nat} {w w' : World} (h : Apart p w w') (hB : B ≤ p) (hs : B ≤ w.heap.size) : Below B w w' :=
  ⟨h.os, h.tape, h.output, h.size, fun k hk => h.block k (by omega) (by omega)⟩
theorem Apart.ofBelow {p : Nat} {w w' : World} (h : Below w.heap.size w w') : Apart p w w' := ⟨h.os, h.tape, h.output, h.size, fun k hk _ => h.block k hk⟩
theorem Apart.ofBut {p : Nat} {w w' : World} (h : But p w w') : Apart p w w' := ⟨h.os, h.tape, h.output, Nat.le_of_eq h.size.symm, fun k _ hn => h.block k hn⟩
theorem Apart.drewN {p : Nat} {w w' : World} (h : Apart p w w') (n : Nat) : Apart p w (w'.drewN n) := ⟨h.os, h.tape, h.output, h.size, h.block⟩
theorem RowAt.apart {w w' : World} {b p : Nat} {t : TypeId} {vs : List Value} (h : RowAt w b t vs) (ha : Apart p w w') (hne : b ≠ p) : RowAt w' b t vs := by
  unfold RowAt at *
  rw [ha.block b (lt_of_block h) hne]; exact h
theorem RowAt.later {w w' : World} {b : Nat} {t : TypeId} {vs : List Value} (h : RowAt w b t vs) (hb : Below w.heap.size w w') : RowAt w' b t vs := h.below hb h.lt

/-- 64 ints. -/
def ic (f : Int → Int) : List Value := (List.range 64).map fun j : Nat => Value.int .i64 (f j)
theorem ic_len (f : Int → Int) : (ic f).length = 64 := by simp [ic]
theorem ic_at (f : Int → Int) {j : Nat} (h : j < 64) : (ic f)[j]? = some (.int .i64 (f j)) := by simp [ic, h]
theorem ic_set (f : Int → Int) {j : Nat} (h : j < 64) : (ic f).set j (.int .i64 (f j + 1)) = ic (up f j) := by
  apply List.ext_getElem?
  intro i
  by_cases hi : i < 64
  · rw [List.getElem?_set, ic_at _ hi, ic_at _ hi, ic_len]
    by_cases e : j = i
    · subst e
      rw [if_pos rfl, if_pos h, up_self f (by omega) (by omega)]
    · rw [if_neg e, up_other f (by omega)]
  · rw [List.getElem?_eq_none (by rw [List.length_set, ic_len]; omega), List.getElem?_eq_none (by rw [ic_len]; omega)]
/-- A log's cells. -/
def lc (f k : Int → Int) : List Value := ic f ++ ic k
theorem lc_f (f k : Int → Int) {j : Nat} (h : j < 64) : (lc f k)[j]? = some (.int .i64 (f j)) := by
  unfold lc; rw [List.getElem?_append_left (by rw [ic_len]; exact h), ic_at f h]
theorem lc_k (f k : Int → Int) {j : Nat} (h : j < 64) : (lc f k)[64 + j]? = some (.int .i64 (k j)) := by
  unfold lc; rw [List.getElem?_append_right (by rw [ic_len]; omega), ic_len, Nat.add_sub_cancel_left, ic_at k h]
theorem lc_setf (f k : Int → Int) {j : Nat} (h : j < 64) : (lc f k).set j (.int .i64 (f j + 1)) = lc (up f j) k := by
  unfold lc; rw [List.set_append_left _ _ (by rw [ic_len]; exact h), ic_set f h]
theorem lc_setk (f k : Int → Int) {j : Nat} (h : j < 64) : (lc f k).set (64 + j) (.int .i64 (k j + 1)) = lc f (up k j) := by
  unfold lc; rw [List.set_append_right _ _ (by rw [ic_len]; omega), ic_len, Nat.add_sub_cancel_left, ic_set k h]
/-- The program's log at block c. -/
def LgIs (w : World) (c : Nat) (f k : Int → Int) : Prop := RowAt w c 53 (lc f k)
def zer : Array Value := (List.replicate 128 (Value.int .i64 0)).toArray
theorem zer_is : zer.toList = lc (fun _ => 0) (fun _ => 0) := by kernel_rfl
theorem run_build53 (w : World) : (Instr.build 53 #[]).run Try.prog w = .ok (.agg zer) w := run_build (P := Try.prog) w 53 _ _ (by kernel_rfl)
theorem wpList_build53 {ops : Array Oper} {rest : List Oper} {o : Oper} {a : Act} {w : World} {Q : Exit → Act → World → Prop} (hg : o.guard = none) (hop : o.op = Op.build 53 #[])
    (hK : wpList Try.prog ops Q rest (a.put o.dst (.agg zer)) w) : wpList Try.prog ops Q (o :: rest) a w := by
  refine wpList_plain hg fun K hK' => ?_
  have := run_build53 w
  unfold Oper.wp
  simp [execOp, hop, this, Result.andThen]
  exact hK' _ _ hK
set_option maxHeartbeats 4000000 in
theorem pnew (w : World) : Calls Try.prog 16 #[] w fun e w' => e = .returned (.pointer (some ⟨w.heap.size, 0, none⟩)) ∧ LgIs w' w.heap.size (fun _ => 0) (fun _ => 0) ∧ Below w.heap.size w w' := by
  have hr := RowAt.new w zer 53
  rw [zer_is] at hr
  have hb0 := below_alloc w (.cells zer 53)
  have HR : Hid (LgIs (w.alloc (.cells zer 53)) w.heap.size (fun _ => 0) (fun _ => 0)) := hr
  have HB : Hid (Below w.heap.size w (w.alloc (.cells zer 53))) := hb0
  clear hr hb0
  go_enter Try.func16, Try.ntmps16
  go_wp2_with (refine wpList_build53 rfl rfl ?_)
  go_ret
  exact ⟨rfl, HR.out, HB.out⟩
theorem HGr : Hid (∀ (x : Int) (w : World), Calls Try.prog 26 #[.int .i64 x] w fun e w' => e = .returned (.bool (decide (0 ≤ x ∧ x ≤ 63))) ∧ w' = w) := pgrp
set_option maxHeartbeats 4000000 in
theorem pclock (c : Nat) (f k : Int → Int) (g : Int) (w : World) (h : LgIs w c f k) : Calls Try.prog 22 #[.pointer (some ⟨c, 0, none⟩), .int .i64 g] w fun e w' => e = .returned (.int .i64 (ofG f g)) ∧ w' = w := by
  have HGx := HGr
  by_cases hg : 0 ≤ g ∧ g ≤ 63
  · have HO : Hid (ofG f g = f g) := ofG_in f hg.1 hg.2
    have ed : decide (0 ≤ g ∧ g ≤ 63) = true := decide_eq_true hg
    obtain ⟨n, rfl⟩ := Int.eq_ofNat_of_zero_le hg.1
    have hn : n < 64 := by omega
    have c0 : w.cell? ⟨c, n, none⟩ = some (.int .i64 (f n)) := by rw [RowAt.cell h]; exact lc_f f k hn
    have f0 := RowAt.frozen h n
    clear h hg
    go_enter Try.func22, Try.ntmps22
    go_wp2_with fail
    refine (HGx.out _ _).mono ?_
    rintro e w1 ⟨rfl, rfl⟩
    rw [ed]
    go_wp2_with fail
    go_ret
    exact ⟨by rw [HO.out]; rfl, rfl⟩
  · have HO : Hid (ofG f g = 0) := ofG_no f hg
    have ed : decide (0 ≤ g ∧ g ≤ 63) = false := decide_eq_false hg
    clear h hg
    go_enter Try.func22, Try.ntmps22
    go_wp2_with fail
    refine (HGx.out _ _).mono ?_
    rintro e w1 ⟨rfl, rfl⟩
    rw [ed]
    go_wp2_with fail
    go_ret
    exact ⟨by rw [HO.out]; rfl, rfl⟩
set_option maxHeartbeats 4000000 in
theorem pback (c : Nat) (f k : Int → Int) (g : Int) (w : World) (h : LgIs w c f k) : Calls Try.prog 23 #[.pointer (some ⟨c, 0, none⟩), .int .i64 g] w fun e w' => e = .returned (.int .i64 (ofG k g)) ∧ w' = w := by
  have HGx := HGr
  by_cases hg : 0 ≤ g ∧ g ≤ 63
  · have HO : Hid (ofG k g = k g) := ofG_in k hg.1 hg.2
    have ed : decide (0 ≤ g ∧ g ≤ 63) = true := decide_eq_true hg
    obtain ⟨n, rfl⟩ := Int.eq_ofNat_of_zero_le hg.1
    have hn : n < 64 := by omega
    have c0 : w.cell? ⟨c, 64 + n, none⟩ = some (.int .i64 (k n)) := by rw [RowAt.cell h]; exact lc_k f k hn
    have f0 := RowAt.frozen h (64 + n)
    clear h hg
    go_enter Try.func23, Try.ntmps23
    go_wp2_with fail
    refine (HGx.out _ _).mono ?_
    rintro e w1 ⟨rfl, rfl⟩
    rw [ed]
    go_wp2_with fail
    go_ret
    exact ⟨by rw [HO.out]; rfl, rfl⟩
  · have HO : Hid (ofG k g = 0) := ofG_no k hg
    have ed : decide (0 ≤ g ∧ g ≤ 63) = false := decide_eq_false hg
    clear h hg
    go_enter Try.func23, Try.ntmps23
    go_wp2_with fail
    refine (HGx.out _ _).mono ?_
    rintro e w1 ⟨rfl, rfl⟩
    rw [ed]
    go_wp2_with fail
    go_ret
    exact ⟨by rw [HO.out]; rfl, rfl⟩
end Go.Proofs.Ytgnobaenlcbfjaa
