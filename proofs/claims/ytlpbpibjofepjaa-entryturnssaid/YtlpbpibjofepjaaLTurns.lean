/-
  The law EntryTurns, walked: for every input it answers true.
-/
import Derived.Test.YtlpbpibjofepjaaR3
namespace Go.Proofs.Ytlpbpibjofepjaa
open Go.RowKit

set_option maxRecDepth 100000 in
set_option maxHeartbeats 4000000 in
theorem turns_walk (x : Nat) (on : Bool) (w : World) (hx : x < 18446744073709551616) :
    Calls Try.prog 4 #[.int .u64 x, .bool on] w fun e w' => e = .returned (.bool true) ∧ Below w.heap.size w w' := by
  obtain ⟨X, hX⟩ : ∃ X, X = turnX x 27 false := ⟨_, rfl⟩
  obtain ⟨T, hT⟩ : ∃ X, X = eT x := ⟨_, rfl⟩
  obtain ⟨Y, hY⟩ : ∃ X, X = turnX x 27 true := ⟨_, rfl⟩
  obtain ⟨Z, hZ⟩ : ∃ X, X = turnX x 26 on := ⟨_, rfl⟩
  have H14 : Hid (∀ w, Calls Try.prog 14 #[.int .u64 x] w fun e w' => e = .returned (.tuple #[.int .u64 X, .bool T]) ∧ Below w.heap.size w w') := by
    intro w; rw [hX, hT]; exact prest x w hx
  have H15 : Hid (∀ w, Calls Try.prog 15 #[.int .u64 x] w fun e w' => e = .returned (.tuple #[.int .u64 X, .bool T]) ∧ Below w.heap.size w w') := by
    intro w; rw [hX, hT]; exact rrest x w hx
  have H16 : Hid (∀ w, Calls Try.prog 16 #[.int .u64 x] w fun e w' => e = .returned (.int .u64 Y) ∧ Below w.heap.size w w') := by
    intro w; rw [hY]; exact ptouch x w hx
  have H17 : Hid (∀ w, Calls Try.prog 17 #[.int .u64 x] w fun e w' => e = .returned (.int .u64 Y) ∧ Below w.heap.size w w') := by
    intro w; rw [hY]; exact rtouch x w hx
  have H18 : Hid (∀ w, Calls Try.prog 18 #[.int .u64 x, .bool on] w fun e w' => e = .returned (.int .u64 Z) ∧ Below w.heap.size w w') := by
    intro w; rw [hZ]; exact pwrite x on w hx
  have H19 : Hid (∀ w, Calls Try.prog 19 #[.int .u64 x, .bool on] w fun e w' => e = .returned (.int .u64 Z) ∧ Below w.heap.size w w') := by
    intro w; rw [hZ]; exact rwrite x on w hx
  have q1 : ((X : Int) == (X : Int)) = true := by simp
  have q2 : ((Y : Int) == (Y : Int)) = true := by simp
  have q3 : ((Z : Int) == (Z : Int)) = true := by simp
  have q4 : (T == T) = true := by simp
  clear hX hT hY hZ hx
  go_enter Try.func4, Try.ntmps4
  go_wp2_with fail
  refine (works_any _).mono ?_
  rintro e w1 ⟨rfl, hB1⟩
  go_wp2_with fail
  refine (H14.out _).mono ?_
  rintro e w2 ⟨rfl, hb2⟩
  have hB2 := bel_trans hB1 hb2
  clear hB1 hb2
  go_wp2_with fail
  refine (H15.out _).mono ?_
  rintro e w3 ⟨rfl, hb3⟩
  have hB3 := bel_trans hB2 hb3
  clear hB2 hb3
  go_wp2_with fail
  refine (H16.out _).mono ?_
  rintro e w4 ⟨rfl, hb4⟩
  have hB4 := bel_trans hB3 hb4
  clear hB3 hb4
  go_wp2_with fail
  refine (H17.out _).mono ?_
  rintro e w5 ⟨rfl, hb5⟩
  have hB5 := bel_trans hB4 hb5
  clear hB4 hb5
  go_wp2_with fail
  refine (H18.out _).mono ?_
  rintro e w6 ⟨rfl, hb6⟩
  have hB6 := bel_trans hB5 hb6
  clear hB5 hb6
  go_wp2_with fail
  refine (H19.out _).mono ?_
  rintro e w7 ⟨rfl, hb7⟩
  have hB7 := bel_trans hB6 hb7
  clear hB6 hb7
  go_wp2_with fail
  go_ret
  exact ⟨rfl, hB7⟩
end Go.Proofs.Ytlpbpibjofepjaa
