/-
  The contract of change, for each of the four closures, and the closures'.
-/
import Derived.Test.YtponlldgnlckfaaP3
import Derived.RegionTactic
import Derived.ChangeAlike
import Derived.BigRegion
import Derived.Deep.RegionHeld3
import Derived.Deep.RegionLaw
import Derived.Deep.CutBlock
import Derived.Deep.DeepCutAuto
set_option maxRecDepth 100000
namespace Go.Proofs.Ytponlldgnlckfaa
open Go.RowKit

/-- A page's box turned by a closure. -/
def Turns (F : Nat) (cb : List Value) (g : Pg → Pg) (W : World) (b : Nat) (y : Pg) : Prop :=
  Calls Try.prog F (Value.pointer (some ⟨b, 0, none⟩) :: cb).toArray W fun e w' => e = .returned (.tuple #[]) ∧ RowAt w' b 45 (pc (g y)).toList ∧ But b W w'

set_option maxHeartbeats 1000000 in
theorem town (o : Int) (bx : Nat) (W : World) (b : Nat) (y : Pg) (hb : RowAt W b 45 (pc y).toList) (hc : W.cell? ⟨bx, 0, none⟩ = some (.int .i64 o)) : Turns 43 [.pointer (some ⟨bx, 0, none⟩)] (ownG o) W b y := by
  unfold Turns
  have HB : Hid (RowAt (W.setCell ⟨b, 4, none⟩ (.int .i64 o)) b 45 (pc (ownG o y)).toList) := hb.set 4 (.int .i64 o)
  have f4 := hb.frozen 4
  have c4 : W.cell? ⟨b, 4, none⟩ = some (.int .i64 y.ow) := by rw [hb.cell]; rfl
  clear hb
  go_enter Try.func43, Try.ntmps43
  go_wp2
  go_end0
  exact ⟨rfl, HB.out, But.setCell _ _ _ _⟩
set_option maxHeartbeats 1000000 in
theorem tmark (d : Bool) (bx : Nat) (W : World) (b : Nat) (y : Pg) (hb : RowAt W b 45 (pc y).toList) (hc : W.cell? ⟨bx, 0, none⟩ = some (.bool d)) : Turns 44 [.pointer (some ⟨bx, 0, none⟩)] (markG d) W b y := by
  unfold Turns
  have HB : Hid (RowAt (W.setCell ⟨b, 8, none⟩ (.bool d)) b 45 (pc (markG d y)).toList) := hb.set 8 (.bool d)
  have f8 := hb.frozen 8
  have c8 : W.cell? ⟨b, 8, none⟩ = some (.bool y.dr) := by rw [hb.cell]; rfl
  clear hb
  go_enter Try.func44, Try.ntmps44
  go_wp2
  go_end0
  exact ⟨rfl, HB.out, But.setCell _ _ _ _⟩
set_option maxHeartbeats 1000000 in
theorem tref (n : Int) (bx : Nat) (W : World) (b : Nat) (y : Pg) (hb : RowAt W b 45 (pc y).toList) (hc : W.cell? ⟨bx, 0, none⟩ = some (.int .i64 n)) (h0 : 0 ≤ y.rf ∧ y.rf ≤ 1000000000) (h1 : -1000 ≤ n ∧ n ≤ 1000) : Turns 42 [.pointer (some ⟨bx, 0, none⟩)] (refG n) W b y := by
  unfold Turns
  have HB : Hid (∀ m, RowAt ((W.drewN m).setCell ⟨b, 5, none⟩ (.int .i64 (y.rf + n))) b 45 (pc (refG n y)).toList) := fun m => (hb.drewN m).set 5 (.int .i64 (y.rf + n))
  have f5 := hb.frozen 5
  have c5 : W.cell? ⟨b, 5, none⟩ = some (.int .i64 y.rf) := by rw [hb.cell]; rfl
  obtain ⟨r, hr⟩ : ∃ r, r = y.rf := ⟨_, rfl⟩
  rw [← hr] at c5 HB h0
  obtain ⟨h2, h3⟩ := h0
  obtain ⟨h4, h5⟩ := h1
  clear hb hr
  go_enter Try.func42, Try.ntmps42
  go_wp2_with fail
  go_region
  all_goals
    go_wp2
    go_end0
    exact ⟨rfl, HB.out 1, ((But.refl _ _).drewN 1).trans (But.setCell _ _ _ _)⟩
set_option maxHeartbeats 1000000 in
theorem tput (p a : Int) (b1 b2 : Nat) (W : World) (b : Nat) (y : Pg) (hb : RowAt W b 45 (pc y).toList) (hc1 : W.cell? ⟨b1, 0, none⟩ = some (.int .i64 p)) (hc2 : W.cell? ⟨b2, 0, none⟩ = some (.int .i64 a)) : Turns 41 [.pointer (some ⟨b1, 0, none⟩), .pointer (some ⟨b2, 0, none⟩)] (putG p a) W b y := by
  have HB : Hid (∀ m, RowAt (((W.drewN m).setCell ⟨b, 2, none⟩ (.int .i64 p)).setCell ⟨b, 3, none⟩ (.int .i64 a)) b 45 (pc (putG p a y)).toList) := fun m => ((hb.drewN m).set 2 (.int .i64 p)).set 3 (.int .i64 a)
  have f2 := hb.frozen 2
  have f3 := hb.frozen 3
  have c2 : W.cell? ⟨b, 2, none⟩ = some (.int .i64 y.pl) := by rw [hb.cell]; rfl
  have c3 : W.cell? ⟨b, 3, none⟩ = some (.int .i64 y.at') := by rw [hb.cell]; rfl
  clear hb
  go_enter Try.func41, Try.ntmps41
  go_wp2_with fail
  go_region
  all_goals
    go_wp2
    go_end0
    exact ⟨rfl, HB.out 1, (((But.refl _ _).drewN 1).trans (But.setCell _ _ _ _)).trans (But.setCell _ _ _ _)⟩
end Go.Proofs.Ytponlldgnlckfaa
