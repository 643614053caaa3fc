/-
  The document's example.
-/
import Derived.Test.YtgnobaenlcbfjaaP4
namespace Go.Proofs.Ytgnobaenlcbfjaa
open Go.RowKit

theorem cell_apart {p : Nat} {w w' : World} {q : Addr} {v : Value} (ha : Apart p w w') (h : w.cell? q = some v) (hne : q.block ≠ p) : w'.cell? q = some v := by
  have hl := block_lt_of_cell (a := q) h
  have := ha.block q.block hl hne
  unfold World.cell? at *
  rw [this]; exact h
set_option maxRecDepth 100000 in
set_option maxHeartbeats 4000000 in
theorem works_any (w : World) : Calls Try.prog 8 #[] w fun e w' => e = .returned (.bool true) ∧ Below w.heap.size w w' := by
  have HN := (show Hid (∀ w, Calls Try.prog 16 #[] w fun e w' => e = .returned (.pointer (some ⟨w.heap.size, 0, none⟩)) ∧ LgIs w' w.heap.size (fun _ => 0) (fun _ => 0) ∧ Below w.heap.size w w') from pnew)
  go_enter Try.func8, Try.ntmps8
  go_wp2_with fail
  refine (HN.out _).mono ?_
  rintro e w1 ⟨rfl, h1, hb1⟩
  obtain ⟨c, hc⟩ : ∃ c, c = w.heap.size := ⟨_, rfl⟩
  rw [← hc] at h1
  have HB : Hid (Below c w w1) := by rw [hc]; exact hb1
  have HC : Hid (c = w.heap.size) := hc
  rw [← hc]
  clear hb1 hc HN
  go_wp2_with fail
  refine (pwent 0 c _ _ 3 _ h1 upto_zero (by omega)).mono ?_
  rintro e w2 ⟨rfl, h2, ha2⟩
  have HB2 : Hid (Below c w w2) := HB.out.trans (ha2.below (Nat.le_refl _) (by rw [HC.out]; exact HB.out.size))
  clear ha2 h1
  go_wp2_with fail
  refine (pwent 1 c _ _ 3 _ h2 (upto_zero.up 3) (by omega)).mono ?_
  rintro e w3 ⟨rfl, h3, ha3⟩
  have HB3 : Hid (Below c w w3) := HB2.out.trans (ha3.below (Nat.le_refl _) (by rw [HC.out]; exact HB2.out.size))
  clear ha3 h2 HB HB2
  have e0 : wentX (fun _ => 0) 3 = 7 := by decide
  rw [e0]
  have hl := plook 7 w3 (by omega)
  have e1 : isS 7 = true := by decide
  have e2 : gS 7 = 3 := by decide
  have e3 : cS 7 = 0 := by decide
  rw [e1, e2, e3] at hl
  go_wp2_with fail
  refine hl.mono ?_
  rintro e w4 ⟨rfl, rfl⟩
  clear hl
  go_wp2_with fail
  refine (pclock c _ _ 3 _ h3).mono ?_
  rintro e w5 ⟨rfl, rfl⟩
  have e4 : ofG (up (up (fun _ => 0) 3) 3) 3 = 2 := by decide
  rw [e4]
  have hd := pdist 7 2 w5 (by omega) (by omega)
  have e5 : dS 7 2 = 2 := by decide
  rw [e5] at hd
  go_wp2_with fail
  refine hd.mono ?_
  rintro e w6 ⟨rfl, rfl⟩
  clear hd
  have hk1 := pwork 7 2 2 w6 (by omega) (by omega)
  have hk2 := pwork 7 2 1 w6 (by omega) (by omega)
  have e6 : nearS 7 2 2 = true := by decide
  have e7 : nearS 7 2 1 = false := by decide
  rw [e6] at hk1
  rw [e7] at hk2
  go_wp2_with fail
  refine hk1.mono ?_
  rintro e w7 ⟨rfl, rfl⟩
  go_wp2_with fail
  refine hk2.mono ?_
  rintro e w8 ⟨rfl, rfl⟩
  clear hk1 hk2
  go_wp2_with fail
  refine (pcame 2 0 c _ _ 7 5 2 _ h3 ((upto_zero.up 3).up 3) upto_zero (by omega) (by omega) (by omega)).mono ?_
  rintro e w9 ⟨rfl, h9, ha9⟩
  have HB9 : Hid (Below c w w9) := HB3.out.trans (ha9.below (Nat.le_refl _) (by rw [HC.out]; exact HB3.out.size))
  clear ha9 h3 HB3
  have e8 : cameB (up (up (fun _ => 0) 3) 3) 7 2 = true := by decide
  rw [e8]
  go_wp2_with fail
  refine (pback c _ _ 5 _ h9).mono ?_
  rintro e w10 ⟨rfl, rfl⟩
  have e9 : ofG (cameF (up (up (fun _ => 0) 3) 3) (fun _ => 0) 7 5 2) 5 = 1 := by decide
  rw [e9]
  go_wp2_with fail
  refine (pmake 3 0 _ (by omega)).mono ?_
  rintro e w11 ⟨rfl, hb11⟩
  have e10 : mkS 3 0 = 7 := by decide
  rw [e10]
  have HB11 : Hid (Below w.heap.size w w11) := by
    have := HB9.out
    rw [HC.out] at this
    exact bel_trans this hb11 (Nat.le_refl _)
  clear HB9 hb11 h9
  go_wp2_with fail
  go_ret
  exact ⟨rfl, HB11.out⟩
end Go.Proofs.Ytgnobaenlcbfjaa
