/-
  Contract of bits.Digits.
-/
import Derived.Test.YtnhlafifmiiliaaDoorW7
namespace Go.Proofs.YtnhlafifmiiliaaDoor
open Go.RowKit

def dsuf (m x : Nat) : Nat → List Int
  | 0 => []
  | k + 1 => ((x / 2 ^ (m * k) % 2 ^ m : Nat) : Int) :: dsuf m x k
theorem dsuf_len (m x : Nat) : ∀ k, (dsuf m x k).length = k
  | 0 => rfl
  | k + 1 => by simp [dsuf, dsuf_len m x k]

theorem back_step (done : List Value) (n k : Nat) (z v : Value) (hk : k < n) :
    (List.replicate (n - k) z ++ done).set (n - 1 - k) v = List.replicate (n - (k + 1)) z ++ (v :: done) := by
  obtain ⟨m, hm⟩ : ∃ m, n - k = m + 1 := ⟨n - k - 1, by omega⟩
  rw [hm, show n - (k + 1) = m from by omega, show n - 1 - k = m from by omega, List.replicate_succ', List.append_assoc, List.set_append]
  simp

/-- How many digits of so many bits make 64. -/
def digs (m : Nat) : Nat := (64 + m - 1) / m
theorem digs_bd (m : Nat) (h : 1 ≤ m) : digs m ≤ 64 ∧ 64 ≤ m * digs m := by
  unfold digs
  constructor
  · apply Nat.div_le_of_le_mul
    have : m * 64 = 64 + (m - 1) * 64 := by
      obtain ⟨j, rfl⟩ : ∃ j, m = j + 1 := ⟨m - 1, by omega⟩
      rw [Nat.add_mul]; simp; omega
    omega
  · have := Nat.div_add_mod (64 + m - 1) m
    have := Nat.mod_lt (64 + m - 1) (show 0 < m by omega)
    omega

set_option maxHeartbeats 1000000 in
theorem digits_yes (x m : Nat) (w : World) (hxl : x < 18446744073709551616) (h0 : 1 ≤ m) (h1 : m ≤ 16) :
    Calls Tryd.prog 28 #[.int .u64 x, .int .i64 m] w fun e w' => e = .returned (.slice (some ⟨w.heap.size, 0, none⟩) (digs m) (digs m)) ∧ IntsAt w' (some ⟨w.heap.size, 0, none⟩) (dsuf m x (digs m)) ∧ Below w.heap.size w w' := by
  have HX : Hid (∀ w, Calls Tryd.prog 41 #[.int .i64 m] w fun e w' => e = .returned (.bool true) ∧ w' = w) := fun w => by
    refine (digitWidth_any m w).mono ?_
    rintro e w' ⟨rfl, rfl⟩
    exact ⟨by rw [decide_eq_true (by omega)], rfl⟩
  obtain ⟨n, hn⟩ : ∃ n, n = digs m := ⟨_, rfl⟩
  have hnb := (digs_bd m h0).1
  rw [← hn] at hnb
  have hv : (64 + (m : Int) - 1) / (m : Int) = (n : Int) := by
    rw [hn]; unfold digs
    rw [Int.natCast_ediv]
    congr 1
    omega
  have e4 : ((m : Int)).toNat = m := by simp
  rw [← hn]
  have HN : Hid (n = digs m) := hn
  clear hn
  go_enter Tryd.func28, Tryd.ntmps28
  go_wp2_with (first
    | (go_at_call 41; refine (HX.out _).mono ?_; rintro e w' ⟨rfl, rfl⟩)
    | (at_make; refine wpList_make_row _ rfl (.tmp 14) (.tmp 14) 39 rfl 3 (.int .i64 0) 8 Tryd.underlying39 info3 rfl .i64 .i64 _ _ n rfl rfl hv hv (by omega) (by omega) ?_; intro w1 hr hz hb))
  clear hv e4
  go_loopw [0, 18] (fun xv i wr => ∃ k : Nat, k ≤ n ∧ i = .int .i64 k ∧ (∃ X : Nat, xv = .int .u64 X ∧ Hid (X = x / 2 ^ (m * k)) ∧ X < 18446744073709551616) ∧
      RowAt wr w'.heap.size 3 (List.replicate (n - k) (Value.int .i64 0) ++ (dsuf m x k).map (Value.int .i64)) ∧ Below w'.heap.size w' wr) (fun _ i _ => n - (intOf i).toNat)
  case atStart => exact ⟨0, by omega, rfl, ⟨x, rfl, by show x = _; simp, hxl⟩, by simpa [dsuf] using hr, hb⟩
  case round =>
    clear hr hz hb
    obtain ⟨k, hk, rfl, ⟨X, rfl, HXk, hXl⟩, hrow, hbel⟩ := hrel
    by_cases hlt : k < n
    · have HD : Hid (x / 2 ^ (m * (k + 1)) = X / 2 ^ m) := by
        show _ = _
        rw [HXk.out, Nat.mul_succ, Nat.pow_add, Nat.div_div_eq_div_mul]
      obtain ⟨V, hV⟩ : ∃ V, V = X % 2 ^ m := ⟨_, rfl⟩
      obtain ⟨Y, hY⟩ : ∃ Y, Y = X / 2 ^ m := ⟨_, rfl⟩
      have hYl : Y < 18446744073709551616 := by rw [hY]; exact Nat.lt_of_le_of_lt (Nat.div_le_self _ _) hXl
      obtain ⟨e1, e2⟩ := and_ones_i64 X m (by omega) (by omega) hXl
      have e3 := shr_val X m
      simp only [Int.toNat_natCast] at e1 e2 e3
      rw [← hV] at e1 e2
      rw [← hY] at e3
      have HV : Hid (V = X % 2 ^ m) := hV
      have HY : Hid (Y = X / 2 ^ m) := hY
      clear hV hY
      have hcB : wr.cell? ⟨w'.heap.size, n - 1 - k, none⟩ = some (.int .i64 0) := by
        rw [hrow.cell, List.getElem?_append_left (by simp; omega), List.getElem?_replicate, if_pos (by omega)]
      have hfB : wr.frozen? ⟨w'.heap.size, n - 1 - k, none⟩ = false := hrow.frozen _
      have HR : Hid (RowAt (wr.setCell ⟨w'.heap.size, n - 1 - k, none⟩ (.int .i64 V)) w'.heap.size 3 (List.replicate (n - (k + 1)) (Value.int .i64 0) ++ (dsuf m x (k + 1)).map (Value.int .i64))) := by
        have := hrow.set (n - 1 - k) (.int .i64 V)
        rw [back_step _ _ _ _ _ hlt] at this
        show RowAt _ _ _ _
        simp only [dsuf, List.map_cons]
        rw [← HXk.out, ← HV.out]
        exact this
      have HB : Hid (Below w'.heap.size w' (wr.setCell ⟨w'.heap.size, n - 1 - k, none⟩ (.int .i64 V))) := hbel.setCell (Nat.le_refl _) _
      clear hrow hbel
      have HO : Hid (∀ w, Calls Tryd.prog 38 #[.int .i64 m] w fun e w' => e = .returned (.int .u64 (2 ^ m - 1)) ∧ w' = w) := fun w => by
        have := ones_any m w (by omega) (by omega)
        simpa using this
      go_wp2_with (go_at_call 38; refine (HO.out _).mono ?_; rintro e wq ⟨rfl, rfl⟩)
      go_roundw
      case rel => exact ⟨k + 1, by omega, by go_num, ⟨Y, rfl, by show Y = _; rw [HD.out, HY.out], hYl⟩, HR.out, HB.out⟩
      case measure => simp [intOf]; omega
    · obtain rfl : k = n := by omega
      go_wp2
      go_ret
      refine ⟨rfl, ?_, hbel⟩
      apply IntsAt.of_row (t := 3)
      simpa using hrow

theorem digits_no (x : Nat) (wd : Int) (w : World) (h0 : ¬ (1 ≤ wd ∧ wd ≤ 16)) :
    Calls Tryd.prog 28 #[.int .u64 x, .int .i64 wd] w fun e w' => e = .returned (.slice none 0 0) ∧ w' = w := by
  have HX : Hid (∀ w, Calls Tryd.prog 41 #[.int .i64 wd] w fun e w' => e = .returned (.bool false) ∧ w' = w) := fun w => by
    refine (digitWidth_any wd w).mono ?_
    rintro e w' ⟨rfl, rfl⟩
    exact ⟨by rw [decide_eq_false h0], rfl⟩
  clear h0
  go_enter Tryd.func28, Tryd.ntmps28
  go_wp2_with (go_at_call 41; refine (HX.out _).mono ?_; rintro e w' ⟨rfl, rfl⟩)
  go_ret
  exact ⟨rfl, rfl⟩
end Go.Proofs.YtnhlafifmiiliaaDoor
