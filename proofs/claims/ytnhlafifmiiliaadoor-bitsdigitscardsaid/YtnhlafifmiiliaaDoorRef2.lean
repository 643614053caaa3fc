/-
  Contracts of the document's own answers: Digits, Pack, Unpack.
-/
import Derived.Test.YtnhlafifmiiliaaDoorRef
import Derived.Test.YtnhlafifmiiliaaDoorLBack
namespace Go.Proofs.YtnhlafifmiiliaaDoor
open Go.RowKit

set_option maxHeartbeats 1000000 in
theorem refDigits_yes (x m : Nat) (w : World) (hxl : x < 18446744073709551616) (h0 : 1 ≤ m) (h1 : m ≤ 16) :
    Calls Tryd.prog 29 #[.int .u64 x, .int .i64 m] w fun e w' => e = .returned (.slice (some ⟨w.heap.size, 0, none⟩) (digs m) (digs m)) ∧ IntsAt w' (some ⟨w.heap.size, 0, none⟩) (dsuf m x (digs m)) ∧ Below w.heap.size w w' := by
  obtain ⟨P, hP⟩ : ∃ P, P = 2 ^ m := ⟨_, rfl⟩
  have hPp : 1 ≤ P := by have := pow_pos m; omega
  have hPl : P ≤ 65536 := by have : 2 ^ m ≤ 2 ^ 16 := pow_le h1; omega
  have hP0 : ((P : Int) == 0) = false := by simp; omega
  have HW : Hid (∀ w, Calls Tryd.prog 40 #[.int .i64 m] w fun e w' => e = .returned (.int .u64 P) ∧ w' = w) := fun w => by
    have := power_any m w (by omega)
    rw [pow64_small (by omega), ← hP] at this
    exact this
  have HPe : Hid (P = 2 ^ m) := hP
  clear hP
  obtain ⟨n, hn⟩ : ∃ n, n = digs m := ⟨_, rfl⟩
  have hnb := (digs_bd m h0).1
  rw [← hn] at hnb
  have hv : (64 + (m : Int) - 1) / (m : Int) = (n : Int) := by
    rw [hn]; unfold digs
    rw [Int.natCast_ediv]
    congr 1
    omega
  rw [← hn]
  have HN : Hid (n = digs m) := hn
  clear hn
  go_enter Tryd.func29, Tryd.ntmps29
  go_wp2_with (at_make; refine wpList_make_row _ rfl (.tmp 19) (.tmp 19) 39 rfl 3 (.int .i64 0) 8 Tryd.underlying39 info3 rfl .i64 .i64 _ _ n rfl rfl hv hv (by omega) (by omega) ?_; intro w1 hr hz hb)
  clear hv
  go_loopw [0, 7] (fun xv i wr => ∃ k : Nat, k ≤ n ∧ i = .int .i64 ((n : Int) - 1 - (k : Int)) ∧ (∃ X : Nat, xv = .int .u64 X ∧ Hid (X = x / 2 ^ (m * k)) ∧ X < 18446744073709551616) ∧
      RowAt wr w.heap.size 3 (List.replicate (n - k) (Value.int .i64 0) ++ (dsuf m x k).map (Value.int .i64)) ∧ Below w.heap.size w wr) (fun _ i _ => (intOf i + 1).toNat)
  case atStart => exact ⟨0, by omega, i64_congr (by omega), ⟨x, rfl, by show x = _; simp, hxl⟩, by simpa [dsuf] using hr, hb⟩
  case round =>
    clear hr hz hb
    obtain ⟨k, hk, rfl, ⟨X, rfl, HXk, hXl⟩, hrow, hbel⟩ := hrel
    by_cases hlt : k < n
    · have HD : Hid (x / 2 ^ (m * (k + 1)) = X / 2 ^ m) := by
        show _ = _
        rw [HXk.out, Nat.mul_succ, Nat.pow_add, Nat.div_div_eq_div_mul]
      obtain ⟨V, hV⟩ : ∃ V, V = X % P := ⟨_, rfl⟩
      obtain ⟨Y, hY⟩ : ∃ Y, Y = X / P := ⟨_, rfl⟩
      have hYl : Y < 18446744073709551616 := by rw [hY]; exact Nat.lt_of_le_of_lt (Nat.div_le_self _ _) hXl
      have hVl : V < 65536 := by rw [hV]; exact Nat.lt_of_lt_of_le (Nat.mod_lt _ hPp) hPl
      have e1 : (X : Int) % (P : Int) = (V : Int) := by rw [hV, Int.natCast_emod]
      have e3 : (X : Int) / (P : Int) = (Y : Int) := by rw [hY, Int.natCast_ediv]
      have HV : Hid (V = X % 2 ^ m) := by show _ = _; rw [hV, HPe.out]
      have HY : Hid (Y = X / 2 ^ m) := by show _ = _; rw [hY, HPe.out]
      clear hV hY
      have hcB : wr.cell? ⟨w.heap.size, n - 1 - k, none⟩ = some (.int .i64 0) := by
        rw [hrow.cell, List.getElem?_append_left (by simp; omega), List.getElem?_replicate, if_pos (by omega)]
      have hfB : wr.frozen? ⟨w.heap.size, n - 1 - k, none⟩ = false := hrow.frozen _
      have HR : Hid (RowAt (wr.setCell ⟨w.heap.size, n - 1 - k, none⟩ (.int .i64 V)) w.heap.size 3 (List.replicate (n - (k + 1)) (Value.int .i64 0) ++ (dsuf m x (k + 1)).map (Value.int .i64))) := by
        have := hrow.set (n - 1 - k) (.int .i64 V)
        rw [back_step _ _ _ _ _ hlt] at this
        show RowAt _ _ _ _
        simp only [dsuf, List.map_cons]
        rw [← HXk.out, ← HV.out]
        exact this
      have HB : Hid (Below w.heap.size w (wr.setCell ⟨w.heap.size, n - 1 - k, none⟩ (.int .i64 V))) := hbel.setCell (Nat.le_refl _) _
      clear hrow hbel
      go_wp2_with (go_at_call 40; refine (HW.out _).mono ?_; rintro e wq ⟨rfl, rfl⟩)
      go_roundw
      case rel => exact ⟨k + 1, by omega, i64_congr (by omega), ⟨Y, rfl, by show Y = _; rw [HD.out, HY.out], hYl⟩, HR.out, HB.out⟩
      case measure => simp [intOf]; omega
    · obtain rfl : k = n := by omega
      go_wp2
      go_ret
      refine ⟨rfl, ?_, hbel⟩
      apply IntsAt.of_row (t := 3)
      simpa using hrow

theorem refDigits_no (x : Nat) (wd : Int) (w : World) (h0 : ¬ (1 ≤ wd ∧ wd ≤ 16)) :
    Calls Tryd.prog 29 #[.int .u64 x, .int .i64 wd] w fun e w' => e = .returned (.slice none 0 0) ∧ w' = w := by
  by_cases h1 : wd < 1
  · clear h0
    go_enter Tryd.func29, Tryd.ntmps29
    go_wp2_with fail
    go_ret
    exact ⟨rfl, rfl⟩
  · have h2 : 16 < wd := by omega
    clear h0
    go_enter Tryd.func29, Tryd.ntmps29
    go_wp2_with fail
    go_ret
    exact ⟨rfl, rfl⟩

end Go.Proofs.YtnhlafifmiiliaaDoor
