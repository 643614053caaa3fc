/-
  The closures of Try and Give; grow.
-/
import Derived.Test.YtpageadhmgoddaaP3
import Derived.Deep.RegionHeld3
namespace Go.Proofs.Ytpageadhmgoddaa
open Go.RowKit

theorem CtIs.up {B N c : Nat} {w : World} {S : Cs} (h : CtIs B N w c S) (q : Up w) : CtIs B N q.p c S := h.below q.h

set_option maxRecDepth 100000 in
set_option maxHeartbeats 4000000 in
theorem pover (B N c bn bc : Nat) (S : Cs) (n x : Int) (w : World) (h : CtIs B N w c S) (hn : 0 ≤ n ∧ n ≤ 1099511627776) (c1 : w.cell? ⟨bn, 0, none⟩ = some (.int .i64 n)) (c2 : w.cell? ⟨bc, 0, none⟩ = some (.pointer (some ⟨c, 0, none⟩))) :
    Calls Try.prog 26 #[.int .i64 x, .pointer (some ⟨bn, 0, none⟩), .pointer (some ⟨bc, 0, none⟩)] w fun e w' => e = .returned (.bool (over S n x)) ∧ Below w.heap.size w w' := by
  have HQ : Hid (over S n x = (decide (0 < n) && decide (S.l x < S.u x + n))) := rfl
  have HO : Hid (∀ w, CtIs B N w c S → Calls Try.prog 27 #[.pointer (some ⟨c, 0, none⟩), .int .i64 x] w fun e w' => e = .returned (.agg #[.int .i64 (S.u x), .int .i64 (S.l x), .int .i64 (S.f x), .int .i64 (S.p x)]) ∧ Below w.heap.size w w') := fun w h => pof B N c S x w h
  have hu := h.ok.u x
  obtain ⟨v0, e0⟩ : ∃ v, v = S.u x := ⟨_, rfl⟩
  obtain ⟨v1, e1⟩ : ∃ v, v = S.l x := ⟨_, rfl⟩
  obtain ⟨v2, e2⟩ : ∃ v, v = S.f x := ⟨_, rfl⟩
  obtain ⟨v3, e3⟩ : ∃ v, v = S.p x := ⟨_, rfl⟩
  rw [← e0, ← e1, ← e2, ← e3] at HO
  rw [← e0, ← e1] at HQ
  rw [← e0] at hu
  clear e0 e1 e2 e3
  have hf0 := fun w => field46 (.int .i64 v0) (.int .i64 v1) (.int .i64 v2) (.int .i64 v3) (.int .i64 v0) 0 (by omega) w rfl
  have hf1 := fun w => field46 (.int .i64 v0) (.int .i64 v1) (.int .i64 v2) (.int .i64 v3) (.int .i64 v1) 1 (by omega) w rfl
  have k1 := Up.cell c1
  have k2 := Up.cell c2
  have hne := Up.any w
  by_cases hp : 0 < n
  · have hd : decide (0 < n) = true := by simp; omega
    have ew : IntKind.i64.wrap (v0 + n) = v0 + n := by rw [IntKind.wrap_i64]; omega
    rw [hd] at HQ
    go_enter Try.func26, Try.ntmps26
    go_wp2_with fail
    refine wp_region_up (by kernel_rfl) (by kernel_rfl) ?_
    repeat (go_big_quiet_step ((go_at_call 27; refine Up.call (HO.out _ (h.up _)))))
    refine wpQuiet_nil ?_
    intro w17 hw'
    obtain ⟨⟨_, hbw⟩, rfl⟩ := hw'
    clear hf0 hf1 k1 k2 c1 c2 hne HO h
    go_wp2_with fail
    go_ret
    exact ⟨by rw [HQ.out]; rfl, hbw⟩
  · have hd : decide (0 < n) = false := by simp; omega
    rw [hd] at HQ
    go_enter Try.func26, Try.ntmps26
    go_wp2_with fail
    refine wp_region_up (by kernel_rfl) (by kernel_rfl) ?_
    repeat (go_big_quiet_step ((go_at_call 27; refine Up.call (HO.out _ (h.up _)))))
    refine wpQuiet_nil ?_
    intro w17 hw'
    obtain ⟨⟨_, hbw⟩, rfl⟩ := hw'
    clear hf0 hf1 k1 k2 c1 c2 hne HO h
    go_wp2_with fail
    go_ret
    exact ⟨by rw [HQ.out]; rfl, hbw⟩

set_option maxRecDepth 100000 in
set_option maxHeartbeats 4000000 in
theorem plack (B N c bn bc : Nat) (S : Cs) (n x : Int) (w : World) (h : CtIs B N w c S) (c1 : w.cell? ⟨bn, 0, none⟩ = some (.int .i64 n)) (c2 : w.cell? ⟨bc, 0, none⟩ = some (.pointer (some ⟨c, 0, none⟩))) :
    Calls Try.prog 31 #[.int .i64 x, .pointer (some ⟨bc, 0, none⟩), .pointer (some ⟨bn, 0, none⟩)] w fun e w' => e = .returned (.bool (lack S n x)) ∧ Below w.heap.size w w' := by
  have HQ : Hid (lack S n x = decide (S.u x < n)) := rfl
  have HO : Hid (∀ w, CtIs B N w c S → Calls Try.prog 27 #[.pointer (some ⟨c, 0, none⟩), .int .i64 x] w fun e w' => e = .returned (.agg #[.int .i64 (S.u x), .int .i64 (S.l x), .int .i64 (S.f x), .int .i64 (S.p x)]) ∧ Below w.heap.size w w') := fun w h => pof B N c S x w h
  obtain ⟨v0, e0⟩ : ∃ v, v = S.u x := ⟨_, rfl⟩
  obtain ⟨v1, e1⟩ : ∃ v, v = S.l x := ⟨_, rfl⟩
  obtain ⟨v2, e2⟩ : ∃ v, v = S.f x := ⟨_, rfl⟩
  obtain ⟨v3, e3⟩ : ∃ v, v = S.p x := ⟨_, rfl⟩
  rw [← e0, ← e1, ← e2, ← e3] at HO
  rw [← e0] at HQ
  clear e0 e1 e2 e3
  have hf0 := fun w => field46 (.int .i64 v0) (.int .i64 v1) (.int .i64 v2) (.int .i64 v3) (.int .i64 v0) 0 (by omega) w rfl
  have k1 := Up.cell c1
  have k2 := Up.cell c2
  have hne := Up.any w
  go_enter Try.func31, Try.ntmps31
  go_wp2_with fail
  refine wp_region_up (by kernel_rfl) (by kernel_rfl) ?_
  repeat (go_big_quiet_step ((go_at_call 27; refine Up.call (HO.out _ (h.up _)))))
  refine wpQuiet_nil ?_
  intro w17 hw'
  obtain ⟨⟨_, hbw⟩, rfl⟩ := hw'
  clear hf0 k1 k2 c1 c2 hne HO h
  go_wp2_with fail
  go_ret
  exact ⟨by rw [HQ.out]; rfl, hbw⟩
end Go.Proofs.Ytpageadhmgoddaa
