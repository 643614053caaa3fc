/-
  The law BitsDigits, walked: for every input it answers true.
-/
import Derived.Test.YtnhlafifmiiliaaDoorRef2
namespace Go.Proofs.YtnhlafifmiiliaaDoor
open Go.RowKit

theorem foldl_dsuf (m x : Nat) : ∀ k y, (dsuf m x k).foldl (joinStep m) y % 18446744073709551616 = (y * 2 ^ (m * k) + x % 2 ^ (m * k)) % 18446744073709551616 := by
  intro k
  induction k with
  | zero => intro y; simp [dsuf, Nat.mod_one]
  | succ k ih =>
    intro y
    show ((dsuf m x k).foldl (joinStep m) (joinStep m y ((x / 2 ^ (m * k) % 2 ^ m : Nat) : Int))) % 18446744073709551616 = _
    rw [ih]
    have hv : x / 2 ^ (m * k) % 2 ^ m < 2 ^ m := Nat.mod_lt _ (pow_pos m)
    have e1 : joinStep m y ((x / 2 ^ (m * k) % 2 ^ m : Nat) : Int) = (y * 2 ^ m + x / 2 ^ (m * k) % 2 ^ m) % 18446744073709551616 := by
      unfold joinStep
      rw [← Int.natCast_emod, Int.toNat_natCast, Nat.mod_eq_of_lt hv]
    have e2 : x % 2 ^ (m * (k + 1)) = x % 2 ^ (m * k) + 2 ^ (m * k) * (x / 2 ^ (m * k) % 2 ^ m) := by
      rw [Nat.mul_succ, Nat.pow_add, Nat.mod_mul]
    rw [e1, e2, Nat.mul_succ, Nat.pow_add]
    generalize x / 2 ^ (m * k) % 2 ^ m = v
    generalize x % 2 ^ (m * k) = r
    generalize 2 ^ (m * k) = q
    generalize 2 ^ m = p
    rw [Nat.add_mod, Nat.mod_mul_mod, ← Nat.add_mod]
    congr 1
    rw [Nat.add_mul, Nat.mul_assoc, Nat.mul_comm p q, Nat.mul_comm v q]
    omega

theorem join_digits (m x : Nat) (h0 : 1 ≤ m) (hx : x < 18446744073709551616) : joinVal m (dsuf m x (digs m)) = x := by
  have h := foldl_dsuf m x (digs m) 0
  rw [Nat.zero_mul, Nat.zero_add] at h
  have h1 := joinVal_lt m (dsuf m x (digs m))
  have h2 : 2 ^ 64 ≤ 2 ^ (m * digs m) := pow_le (digs_bd m h0).2
  rw [Nat.mod_eq_of_lt (show x < 2 ^ (m * digs m) by omega), Nat.mod_eq_of_lt hx] at h
  unfold joinVal at *
  rw [Nat.mod_eq_of_lt h1] at h
  exact h

theorem digits_long (a : Option Addr) (cap n : Nat) (x : Nat) (wd : Int) (w : World) (hT : Tab w) (hn : n ≤ 9223372036854775807) (h : 100 < n) :
    Calls Tryd.prog 5 #[.int .u64 x, .slice a n cap, .int .i64 wd] w fun e w' => e = .returned (.bool true) ∧ Below w.heap.size w w' := by
  go_enter Tryd.func5, Tryd.ntmps5
  go_wp2_with (go_at_call 11; refine (works_any _ hT).mono ?_; rintro e w1 ⟨rfl, hb⟩)
  go_ret
  exact ⟨rfl, hb⟩

set_option maxHeartbeats 2000000 in
theorem digits_out (a : Option Addr) (cap : Nat) (l : List Int) (x : Nat) (wd : Int) (w : World) (hT : Tab w) (hn : l.length ≤ 100) (h : ¬ (1 ≤ wd ∧ wd ≤ 16)) :
    Calls Tryd.prog 5 #[.int .u64 x, .slice a l.length cap, .int .i64 wd] w fun e w' => e = .returned (.bool true) ∧ Below w.heap.size w w' := by
  have hd1 : decide ((100 : Int) < (l.length : Int)) = false := by simp; omega
  have HD : Hid (∀ w, Calls Tryd.prog 28 #[.int .u64 x, .int .i64 wd] w fun e w' => e = .returned (.slice none 0 0) ∧ w' = w) := fun w => digits_no x wd w h
  have HE : Hid (∀ w, Calls Tryd.prog 29 #[.int .u64 x, .int .i64 wd] w fun e w' => e = .returned (.slice none 0 0) ∧ w' = w) := fun w => refDigits_no x wd w h
  have HJ : Hid (∀ w, Calls Tryd.prog 30 #[.slice a l.length cap, .int .i64 wd] w fun e w' => e = .returned (.int .u64 0) ∧ w' = w) := fun w => join_no a cap _ wd w h
  have HR : Hid (∀ w, Calls Tryd.prog 31 #[.slice a l.length cap, .int .i64 wd] w fun e w' => e = .returned (.int .u64 0) ∧ w' = w) := fun w => refJoin_no a cap _ wd w h
  have HS : Hid (∀ w, Calls Tryd.prog 27 #[.slice none 0 0, .slice none 0 0] w fun e w' => e = .returned (.bool true) ∧ ∃ n, w' = w.drewN n) := fun w => same_len none none 0 0 0 0 [] w rfl rfl (by decide) (IntsAt.nil _ _) (IntsAt.nil _ _)
  have H16 : Hid (¬ (1 ≤ wd ∧ wd ≤ 16)) := h
  clear h
  by_cases h1 : wd < 1
  all_goals
    try (have h2 : 16 < wd := by have := H16.out; omega)
    go_enter Tryd.func5, Tryd.ntmps5
    go_wp2_with (first
      | (go_at_call 11; refine (works_any _ hT).mono ?_; rintro e w1 ⟨rfl, hb⟩)
      | (go_at_call 28; refine (HD.out _).mono ?_; rintro e w2 ⟨rfl, rfl⟩)
      | (go_at_call 29; refine (HE.out _).mono ?_; rintro e w2 ⟨rfl, rfl⟩)
      | (go_at_call 30; refine (HJ.out _).mono ?_; rintro e w2 ⟨rfl, hw2⟩; subst hw2)
      | (go_at_call 31; refine (HR.out _).mono ?_; rintro e w2 ⟨rfl, hw2⟩; subst hw2)
      | (go_at_call 27; refine (HS.out _).mono ?_; rintro e w2 ⟨rfl, nq, rfl⟩))
    go_ret
    exact ⟨rfl, below_drawn hb _⟩

set_option maxHeartbeats 2000000 in
theorem digits_in (a : Option Addr) (cap : Nat) (l : List Int) (x m : Nat) (w : World) (hT : Tab w) (hn : l.length ≤ 100) (hx : x < 18446744073709551616) (h1 : 1 ≤ m) (h2 : m ≤ 16) (hc : IntsAt w a l) :
    Calls Tryd.prog 5 #[.int .u64 x, .slice a l.length cap, .int .i64 m] w fun e w' => e = .returned (.bool true) ∧ Below w.heap.size w w' := by
  have hd1 : decide ((100 : Int) < (l.length : Int)) = false := by simp; omega
  have hXX : ((x : Int) == (x : Int)) = true := by simp
  obtain ⟨n, hnn⟩ : ∃ n, n = digs m := ⟨_, rfl⟩
  obtain ⟨D, hD⟩ : ∃ D, D = dsuf m x (digs m) := ⟨_, rfl⟩
  have hDl : n = D.length := by rw [hD, hnn, dsuf_len]
  have hnb : n ≤ 64 := by rw [hnn]; exact (digs_bd m h1).1
  have HD : Hid (∀ w, Calls Tryd.prog 28 #[.int .u64 x, .int .i64 m] w fun e w' => e = .returned (.slice (some ⟨w.heap.size, 0, none⟩) n n) ∧ IntsAt w' (some ⟨w.heap.size, 0, none⟩) D ∧ Below w.heap.size w w') := fun w => by
    rw [hD, hnn]; exact digits_yes x m w hx h1 h2
  have HE : Hid (∀ w, Calls Tryd.prog 29 #[.int .u64 x, .int .i64 m] w fun e w' => e = .returned (.slice (some ⟨w.heap.size, 0, none⟩) n n) ∧ IntsAt w' (some ⟨w.heap.size, 0, none⟩) D ∧ Below w.heap.size w w') := fun w => by
    rw [hD, hnn]; exact refDigits_yes x m w hx h1 h2
  obtain ⟨J, hJ⟩ : ∃ J, J = joinVal m l := ⟨_, rfl⟩
  have hJJ : ((J : Int) == (J : Int)) = true := by simp
  have HJ : Hid (∀ w, IntsAt w a l → Calls Tryd.prog 30 #[.slice a l.length cap, .int .i64 m] w fun e w' => e = .returned (.int .u64 J) ∧ w' = w) := fun w h => by
    have := join_yes a cap l m w (by omega) (by omega) (by omega) h
    rw [Int.toNat_natCast, ← hJ] at this
    exact this
  have HR : Hid (∀ w, IntsAt w a l → Calls Tryd.prog 31 #[.slice a l.length cap, .int .i64 m] w fun e w' => e = .returned (.int .u64 J) ∧ ∃ n, w' = w.drewN n) := fun w h => by
    rw [hJ]; exact refJoin_yes a cap l m w h1 h2 (by omega) h
  have HB : Hid (∀ w (u : Option Addr), IntsAt w u D → Calls Tryd.prog 30 #[.slice u n n, .int .i64 m] w fun e w' => e = .returned (.int .u64 (x : Int)) ∧ w' = w) := fun w u h => by
    have := join_len u n n D m w hDl (by omega) (by omega) (by omega) h
    rw [Int.toNat_natCast, hD, join_digits m x h1 hx] at this
    exact this
  have HL : Hid (n = D.length) := hDl
  clear hnn hD hJ hDl
  go_enter Tryd.func5, Tryd.ntmps5
  go_wp2_with fail
  refine (works_any _ hT).mono ?_
  rintro e w1 ⟨rfl, hb⟩
  have hc1 := hc.below hb
  clear hc hT
  go_wp2_with fail
  refine (HD.out _).mono ?_
  rintro e w2 ⟨rfl, hv2, hb2⟩
  have hc2 := hc1.below hb2
  have hB2 := hb.trans (hb2.mono hb.size)
  clear hc1 hb hb2
  go_wp2_with fail
  refine (HE.out _).mono ?_
  rintro e w3 ⟨rfl, hv3, hb3⟩
  have hc3 := hc2.below hb3
  have hv2' := hv2.below hb3
  have hB3 := hB2.trans (hb3.mono hB2.size)
  clear hc2 hb3 hB2 hv2
  go_wp2_with fail
  refine (same_len _ _ _ _ _ _ D _ HL.out HL.out (by have := HL.out; omega) hv2' hv3).mono ?_
  rintro e w4 ⟨rfl, nq, rfl⟩
  have hc4 := hc3.drewN nq
  have hv4 := hv2'.drewN nq
  have hB4 := below_drawn hB3 nq
  clear hc3 hv2' hv3 hB3
  generalize w3.drewN nq = w4 at *
  go_wp2_with fail
  refine (HJ.out _ hc4).mono ?_
  rintro e w5 ⟨rfl, rfl⟩
  go_wp2_with fail
  refine (HR.out _ hc4).mono ?_
  rintro e w6 ⟨rfl, nr, rfl⟩
  have hv6 := hv4.drewN nr
  have hB6 := below_drawn hB4 nr
  clear hc4 hv4 hB4
  generalize w5.drewN nr = w6 at *
  go_wp2_with fail
  refine (HB.out _ _ hv6).mono ?_
  rintro e w7 ⟨rfl, rfl⟩
  go_wp2_with fail
  go_ret
  exact ⟨rfl, hB6⟩

theorem digits_walk (x0 : Int) (a1 : Option Addr) (cap1 : Nat) (l1 : List Int) (x2 : Int) (w : World) (hT : Tab w) (w0 : 0 ≤ x0 ∧ x0 ≤ 18446744073709551615) (t1 : IntsAt w a1 l1) (_ : I64s l1) (n1 : l1.length * 8 ≤ 140737488351232) (_ : a1 = none → cap1 = 0) (_ : -9223372036854775808 ≤ x2 ∧ x2 ≤ 9223372036854775807) :
    Calls Tryd.prog 5 #[.int .u64 x0, .slice a1 l1.length cap1, .int .i64 x2] w fun e w' => e = .returned (.bool true) ∧ Below w.heap.size w w' := by
  obtain ⟨x, rfl⟩ := Int.eq_ofNat_of_zero_le w0.1
  by_cases h : 100 < l1.length
  · exact digits_long a1 cap1 _ x x2 w hT (by omega) h
  · by_cases h2 : 1 ≤ x2 ∧ x2 ≤ 16
    · obtain ⟨m, rfl⟩ := Int.eq_ofNat_of_zero_le (show 0 ≤ x2 by omega)
      exact digits_in a1 cap1 l1 x m w hT (by omega) (by omega) (by omega) (by omega) t1
    · exact digits_out a1 cap1 l1 x x2 w hT (by omega) h2

end Go.Proofs.YtnhlafifmiiliaaDoor
