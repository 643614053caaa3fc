/-
  The document's example.
-/
import Derived.Test.YtfmgmelgfnppkaaOwn
namespace Go.Proofs.Ytfmgmelgfnppkaa
open Go.RowKit

theorem e1 : addE [] 5 1 = 0 := rfl
theorem l1 : addL [] 5 1 false = [⟨5, 1, 0⟩] := rfl
theorem e2 : addE [⟨5, 1, 0⟩] 3 1 = 0 := rfl
theorem l2 : addL [⟨5, 1, 0⟩] 3 1 false = [⟨3, 1, 0⟩, ⟨5, 1, 0⟩] := rfl
theorem e3 : ageN [⟨3, 1, 0⟩, ⟨5, 1, 0⟩] 1 = 2 := rfl
theorem l3 : ageL [⟨3, 1, 0⟩, ⟨5, 1, 0⟩] 1 = [⟨3, 1, 1⟩, ⟨5, 1, 1⟩] := rfl
theorem e4 : addE [⟨3, 1, 1⟩, ⟨5, 1, 1⟩] 4 1 = 0 := rfl
theorem l4 : addL [⟨3, 1, 1⟩, ⟨5, 1, 1⟩] 4 1 false = [⟨3, 1, 1⟩, ⟨4, 1, 0⟩, ⟨5, 1, 1⟩] := rfl
theorem e5 : iL [⟨3, 1, 1⟩, ⟨4, 1, 0⟩, ⟨5, 1, 1⟩] [1] = [3, 5, 4] := rfl
theorem e6 : oldN [⟨3, 1, 1⟩, ⟨4, 1, 0⟩, ⟨5, 1, 1⟩] 5 = 1 := rfl
theorem e7 : grpN [⟨3, 1, 1⟩, ⟨4, 1, 0⟩, ⟨5, 1, 1⟩] 5 = 1 := rfl
theorem e8 : cntL [⟨3, 1, 1⟩, ⟨4, 1, 0⟩, ⟨5, 1, 1⟩] 1 = 3 := rfl
theorem e9 : noneE [⟨3, 1, 1⟩, ⟨4, 1, 0⟩, ⟨5, 1, 1⟩] 9 = 2 := rfl

set_option maxHeartbeats 2000000 in
theorem works_any (w : World) : Calls Try.prog 9 #[] w fun e w' => e = .returned (.bool true) ∧ Below w.heap.size w w' := by
  go_enter Try.func9, Try.ntmps9
  go_wp2_with fail
  refine (newO (Below.refl _ w)).mono ?_
  rintro e w1 ⟨t, m, rfl, h1, -⟩
  go_wp2_with fail
  refine (addO h1 (by simp) 5 1 false).mono ?_
  rintro e w2 ⟨rfl, h2, -⟩
  rw [e1]
  rw [l1] at h2
  clear h1
  go_wp2_with fail
  refine (addO h2 (by simp) 3 1 false).mono ?_
  rintro e w3 ⟨rfl, h3, -⟩
  rw [e2]
  rw [l2] at h3
  clear h2
  go_wp2_with fail
  refine (ageO h3 (by simp) 1).mono ?_
  rintro e w4 ⟨rfl, h4, -⟩
  rw [e3]
  rw [l3] at h4
  clear h3
  go_wp2_with fail
  refine (addO h4 (by simp) 4 1 false).mono ?_
  rintro e w5 ⟨rfl, h5, -⟩
  rw [e4]
  rw [l4] at h5
  clear h4
  go_wp2_with fail
  refine (orderO (h5.later (below_alloc w5 (.cells #[.int .i64 1] 3))) (by simp) 1 (G := [1]) (Ints.one (RowAt.new w5 #[.int .i64 1] 3) (by decide)) (by simp)).mono ?_
  rintro e w6 ⟨a6, c6, N, hN, rfl, hI, h6, -⟩
  rw [e5] at hN
  subst hN
  obtain ⟨b, off, rfl, k0, -⟩ := hI.get (j := 0) (by simp)
  obtain ⟨b', off', hb', k1, -⟩ := hI.get (j := 1) (by simp)
  injection hb' with hb'
  injection hb' with hb1 hb2
  subst hb1
  subst hb2
  obtain ⟨b', off', hb', k2, -⟩ := hI.get (j := 2) (by simp)
  injection hb' with hb'
  injection hb' with hb1 hb2
  subst hb1
  subst hb2
  simp only [List.getElem_cons_zero, List.getElem_cons_succ, Nat.add_zero] at k0 k1 k2
  clear h5 hI
  have C1 := hid (oldO h6 (i := 5) (by decide))
  rw [e6] at C1
  have H6 := hid h6
  clear h6
  go_wp2_with fail
  refine C1.out.mono ?_
  rintro e w7 ⟨rfl, h7, -⟩
  have C2 := hid (groupO h7 (i := 5) (by decide))
  rw [e7] at C2
  clear h7 C1
  go_wp2_with fail
  refine C2.out.mono ?_
  rintro e w8 ⟨rfl, h8, -⟩
  have C3 := hid (countO h8 (by simp) 1)
  rw [e8] at C3
  clear h8 C2
  go_wp2_with fail
  refine C3.out.mono ?_
  rintro e w9 ⟨rfl, h9, -⟩
  have C4 := hid (touchO h9 (by simp) (i := 9) (by decide))
  rw [e9] at C4
  clear h9 C3
  go_wp2_with fail
  refine C4.out.mono ?_
  rintro e w10 ⟨rfl, h10, -⟩
  have HB := hid h10.bel
  clear h10 C4
  go_wp2_with fail
  go_ret
  exact ⟨rfl, HB.out⟩
end Go.Proofs.Ytfmgmelgfnppkaa
