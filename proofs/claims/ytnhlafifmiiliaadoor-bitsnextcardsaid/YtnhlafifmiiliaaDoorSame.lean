/-
  Contract of the laws' own 'same': two slices that read as one list are the same.
-/
import Derived.Test.YtnhlafifmiiliaaDoorWorks
namespace Go.Proofs.YtnhlafifmiiliaaDoor
open Go.RowKit

theorem drewN_add (w : World) (n m : Nat) : (w.drewN n).drewN m = w.drewN (n + m) := by
  simp [World.drewN, Nat.add_assoc]

set_option maxHeartbeats 1000000 in
theorem same_yes (a b : Option Addr) (cap cap' : Nat) (l : List Int) (w : World) (hl : l.length ≤ 9223372036854775806) (h1 : IntsAt w a l) (h2 : IntsAt w b l) :
    Calls Tryd.prog 27 #[.slice a l.length cap, .slice b l.length cap'] w fun e w' => e = .returned (.bool true) ∧ ∃ n, w' = w.drewN n := by
  have hne : ((l.length : Int) != (l.length : Int)) = false := by simp
  go_enter Tryd.func27, Tryd.ntmps27
  go_wp2
  go_loopw [5] (fun i wr => ∃ k : Nat, k ≤ l.length ∧ i = .int .i64 k ∧ ∃ n, wr = w.drewN n) (fun i _ => l.length - (intOf i).toNat)
  case atStart => exact ⟨0, by omega, rfl, 0, rfl⟩
  case round =>
    obtain ⟨k, hk, rfl, n, rfl⟩ := hrel
    by_cases hlt : k < l.length
    · obtain ⟨b1, o1, rfl, hc1⟩ := h1 k hlt
      obtain ⟨b2, o2, rfl, hc2⟩ := h2 k hlt
      have hq : (l[k] != l[k]) = false := by simp
      go_wp2
      go_quiet (fail)
      go_wp2
      go_roundw
      case rel => exact ⟨k + 1, by omega, by go_num, _, rfl⟩
      case measure => simp [intOf]; omega
    · go_wp2
      go_ret
      exact ⟨rfl, n, rfl⟩

theorem same_len (a b : Option Addr) (n m cap cap' : Nat) (l : List Int) (w : World) (hn : n = l.length) (hm : m = l.length) (hl : l.length ≤ 9223372036854775806) (h1 : IntsAt w a l) (h2 : IntsAt w b l) :
    Calls Tryd.prog 27 #[.slice a n cap, .slice b m cap'] w fun e w' => e = .returned (.bool true) ∧ ∃ n, w' = w.drewN n := by
  subst hn; subst hm
  exact same_yes a b cap cap' l w hl h1 h2
theorem below_drawn {B : Nat} {w w' : World} (h : Below B w w') (n : Nat) : Below B w (w'.drewN n) := ⟨h.os, h.tape, h.output, h.size, h.block⟩
end Go.Proofs.YtnhlafifmiiliaaDoor
