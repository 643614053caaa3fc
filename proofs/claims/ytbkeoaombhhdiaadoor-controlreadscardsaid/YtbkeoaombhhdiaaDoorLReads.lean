/-
  ControlReads, walked.
-/
import Derived.Test.YtbkeoaombhhdiaaDoorWorks
namespace Go.Proofs.YtbkeoaombhhdiaaDoor
open Go.RowKit

set_option maxRecDepth 100000 in
set_option maxHeartbeats 4000000 in
theorem reads_walk (name text : ByteArray) (n : Int) (w : World) (ht : Tabs w) (_hz1 : name.size ≤ maxLen) (hz2 : text.size ≤ maxLen) (hn : i64 n) :
    Calls Tryd.prog 3 #[.string name, .string text, .int .i64 n] w fun e w' => e = .returned (.bool true) ∧ Below w.heap.size w w' := by
  have HT : Hid (Tabs w) := ht
  have H2 : Hid (text.size ≤ maxLen) := hz2
  have HN : Hid (i64 n) := hn
  obtain ⟨⟨x, y, z⟩, hr⟩ : ∃ r, rd name.data.toList text.data.toList = r := ⟨_, rfl⟩
  have HP : Hid (∀ w, Tabs w → Calls Tryd.prog 10 #[.string name, .string text] w fun e w' => e = .returned (.tuple #[.int .i64 x, .int .i64 y, .int .i64 z]) ∧ Below w.heap.size w w') := fun w h => by
    refine (pread name text w hz2 h).mono ?_
    rintro e w' ⟨rfl, hb⟩
    rw [hr]
    exact ⟨rfl, hb⟩
  have HQ : Hid (∀ w, Calls Tryd.prog 11 #[.string name, .string text] w fun e w' => e = .returned (.tuple #[.int .i64 x, .int .i64 y, .int .i64 z]) ∧ Below w.heap.size w w') := fun w => by
    refine (rread name text w hz2).mono ?_
    rintro e w' ⟨rfl, hb⟩
    rw [hr]
    exact ⟨rfl, hb⟩
  clear hr ht hz2 hn
  by_cases h1 : (1000 : Int) < text.size
  · go_enter Tryd.func3, Tryd.ntmps3
    go_wp2_with (go_at_call 9; refine (works_any _ HT.out).mono ?_; rintro e w1 ⟨rfl, hb1⟩)
    go_ret
    exact ⟨rfl, hb1⟩
  · go_enter Tryd.func3, Tryd.ntmps3
    go_wp2_with (go_at_call 9; refine (works_any _ HT.out).mono ?_; rintro e w1 ⟨rfl, hb1⟩)
    refine (HP.out _ (HT.out.below hb1)).mono ?_
    rintro e w2 ⟨rfl, hb2⟩
    have hb2' := hb1.trans (hb2.mono hb1.size)
    clear hb1 hb2
    go_wp2_with fail
    refine (HQ.out _).mono ?_
    rintro e w3 ⟨rfl, hb3⟩
    have hb3' := hb2'.trans (hb3.mono hb2'.size)
    clear hb2' hb3
    go_wp2_with fail
    refine (pshow n HN.out _ (HT.out.below hb3')).mono ?_
    rintro e w4 ⟨rfl, hb4⟩
    have hb4' := hb3'.trans (hb4.mono hb3'.size)
    clear hb3' hb4
    go_wp2_with fail
    refine (rshow n HN.out _).mono ?_
    rintro e w5 ⟨rfl, hb5⟩
    go_wp2_with fail
    go_ret
    exact ⟨rfl, hb4'.trans (hb5.mono hb4'.size)⟩
end Go.Proofs.YtbkeoaombhhdiaaDoor
