/-
  A table's nodes in memory; contracts of digit, isPage.
-/
import Derived.Test.YtaecacbapeogdaaMem
import Derived.Test.YtaecacbapeogdaaMath
import Derived.Test.YtaecacbapeogdaaRows
import Derived.Deep.RegionLaw
import Derived.Deep.CutBlock
import Derived.Deep.DeepCutAuto
namespace Go.Proofs.Ytaecacbapeogdaa
open Go.RowKit

theorem pispage (x : Int) (w : World) : Calls Try.prog 28 #[.int .i64 x] w fun e w' => e = .returned (.bool (decide (0 ≤ x) && decide (x < 65536))) ∧ w' = w := by
  by_cases h : 0 ≤ x
  · go_enter Try.func28, Try.ntmps28
    go_wp2
    go_ret
    exact ⟨by simp [h], rfl⟩
  · have hd : decide (0 ≤ x) = false := by simp; omega
    rw [hd]
    go_enter Try.func28, Try.ntmps28
    go_wp2
    go_ret
    exact ⟨rfl, rfl⟩

theorem and_15 (X : Nat) (h : X < 9223372036854775808) : bits BinOp.and IntKind.i64 (X : Int) 15 = ((X % 16 : Nat) : Int) := by
  have h1 : (BitVec.ofInt 64 (X : Int)).toNat = X := by rw [BitVec.ofInt_natCast, BitVec.toNat_ofNat]; exact Nat.mod_eq_of_lt (by omega)
  have h2 : (BitVec.ofInt 64 (15 : Int)).toNat = 15 := by decide
  show IntKind.i64.wrap ((BitVec.ofInt 64 (X : Int) &&& BitVec.ofInt 64 15).toNat : Int) = _
  rw [BitVec.toNat_and, h1, h2, show X &&& 15 = X % 16 from Nat.and_two_pow_sub_one_eq_mod X 4]
  rw [IntKind.wrap_i64]
  omega
theorem dg_0 (p : Nat) : dg p 0 = p / 4096 % 16 := by unfold dg; rw [pg_one]
theorem dg_1 (p : Nat) : dg p 1 = p / 256 % 16 := by unfold dg; rw [pg_two]
theorem dg_2 (p : Nat) : dg p 2 = p / 16 % 16 := by unfold dg; rw [pg_three]
theorem dg_3 (p : Nat) : dg p 3 = p % 16 := by unfold dg; rw [pg_four]

theorem pdigit (p k sh : Nat) (hp : p < 65536) (hk : sh + 4 * k = 12) (w : World) : Calls Try.prog 33 #[.int .i64 p, .int .i64 sh] w fun e w' => e = .returned (.int .i64 (dg p k)) ∧ w' = w := by
  have hk' : k = 0 ∧ sh = 12 ∨ k = 1 ∧ sh = 8 ∨ k = 2 ∧ sh = 4 ∨ k = 3 ∧ sh = 0 := by omega
  rcases hk' with ⟨rfl, rfl⟩ | ⟨rfl, rfl⟩ | ⟨rfl, rfl⟩ | ⟨rfl, rfl⟩
  · have H : Hid (bits BinOp.and IntKind.i64 ((p : Int) / 4096) 15 = (dg p 0 : Int)) := by
      have := and_15 (p / 4096) (by omega)
      rw [Int.natCast_ediv] at this
      rw [← dg_0] at this
      exact this
    clear hk
    go_enter Try.func33, Try.ntmps33
    go_wp2
    rw [H.out]
    go_ret
    exact ⟨rfl, rfl⟩
  · have H : Hid (bits BinOp.and IntKind.i64 ((p : Int) / 256) 15 = (dg p 1 : Int)) := by
      have := and_15 (p / 256) (by omega)
      rw [Int.natCast_ediv] at this
      rw [← dg_1] at this
      exact this
    clear hk
    go_enter Try.func33, Try.ntmps33
    go_wp2
    rw [H.out]
    go_ret
    exact ⟨rfl, rfl⟩
  · have H : Hid (bits BinOp.and IntKind.i64 ((p : Int) / 16) 15 = (dg p 2 : Int)) := by
      have := and_15 (p / 16) (by omega)
      rw [Int.natCast_ediv] at this
      rw [← dg_2] at this
      exact this
    clear hk
    go_enter Try.func33, Try.ntmps33
    go_wp2
    rw [H.out]
    go_ret
    exact ⟨rfl, rfl⟩
  · have H : Hid (bits BinOp.and IntKind.i64 (p : Int) 15 = (dg p 3 : Int)) := by
      have := and_15 p (by omega)
      rw [← dg_3] at this
      exact this
    clear hk
    go_enter Try.func33, Try.ntmps33
    go_wp2
    rw [H.out]
    go_ret
    exact ⟨rfl, rfl⟩
end Go.Proofs.Ytaecacbapeogdaa
