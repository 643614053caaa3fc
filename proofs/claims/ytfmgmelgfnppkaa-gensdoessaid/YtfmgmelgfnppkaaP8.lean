/-
  The closure that orders two ids, and slices.SortFunc with it.
-/
import Derived.Test.YtfmgmelgfnppkaaP7
import Derived.Test.YtfmgmelgfnppkaaShelf
import Derived.Shelf.SlSortCmp.Whole1
import Derived.Shelf.SlicesG.Cmp
namespace Go.Proofs.Ytfmgmelgfnppkaa
open Go.RowKit Go.Sort Go.Lib

/-- What the closure answers. -/
def cmpO (L : List En) (x y : Int) : Int := if compareInt (oldN L y) (oldN L x) ≠ 0 then compareInt (oldN L y) (oldN L x) else compareInt x y
theorem cmpO_lt (L : List En) (x y : Int) : cmpO L x y < 0 ↔ oldN L y < oldN L x ∨ oldN L x = oldN L y ∧ x < y := by
  unfold cmpO compareInt
  split <;> (repeat' split) <;> omega

theorem grow_two (w : World) (o1 o2 : Obj) : (w.alloc o1).alloc o2 = grow (w.drewN 0) #[o1, o2] := by
  rw [alloc_eq_grow, alloc_eq_grow, grow_grow]; rfl
theorem bel_grow (w : World) (n : Nat) (os : Array Obj) : Below w.heap.size w (grow (w.drewN n) os) :=
  ⟨rfl, rfl, rfl, by simp [grow], fun k hk => heap_grow_old (w.drewN n) os hk⟩

set_option maxHeartbeats 1000000 in
theorem pcmp (t m : Nat) (L : List En) (x y : Int) (b0 : Nat) (W : World) (h : LsIs W t m L) (hb : RowAt W b0 25 [.pointer (some ⟨t, 0, none⟩)]) (hx : (Lit.int .i64 x).wf = true) (hy : (Lit.int .i64 y).wf = true) :
    Calls Try.prog 33 #[.int .i64 x, .int .i64 y, .pointer (some ⟨b0, 0, none⟩)] W fun e w' => e = .returned (.int .i64 (cmpO L x y)) ∧ ∃ q os', w' = grow (W.drewN q) os' := by
  have hmix : Try.prog.follows .mixedOrders = true := by kernel_rfl
  have HG : Hid (∀ z, (Lit.int .i64 z).wf = true → ∀ n os, Calls Try.prog 20 #[.pointer (some ⟨t, 0, none⟩), .int .i64 z] (grow (W.drewN n) os) fun e w' => e = .returned (.int .i64 (oldN L z)) ∧ ∃ q os', w' = grow ((grow (W.drewN n) os).drewN q) os') := by
    intro z hz n os
    refine (poldX t m L z _ (h.below (bel_grow W n os)) hz).mono ?_
    rintro e w' ⟨he, o1, o2, hw⟩
    exact ⟨he, 0, _, by rw [hw, grow_two]⟩
  have HC : Hid (∀ x y W, Calls Try.prog 34 #[.int .i64 x, .int .i64 y] W fun e w' => e = .returned (.int .i64 (compareInt x y)) ∧ w' = W) := fun x y W => AnyG.cmp_Compare_int Try.cmpL x y W
  have HC2 : Hid (∀ x y n os, Calls Try.prog 34 #[.int .i64 x, .int .i64 y] (grow (W.drewN n) os) fun e w' => e = .returned (.int .i64 (compareInt x y)) ∧ ∃ q os', w' = grow ((grow (W.drewN n) os).drewN q) os') := fun x y n os =>
    (HC.out x y _).mono fun _ _ ⟨he, hw⟩ => ⟨he, 0, #[], by rw [hw, grow_empty]; rfl⟩
  have hcell : ∀ n os, (grow (W.drewN n) os).cell? ⟨b0, 0, none⟩ = some (.pointer (some ⟨t, 0, none⟩)) := fun n os => cell_grown (a := ⟨b0, 0, none⟩) hb.lt (by rw [hb.cell]; rfl) n os
  clear h hb
  obtain ⟨ax, hax⟩ : ∃ a, a = oldN L x := ⟨_, rfl⟩
  obtain ⟨ay, hay⟩ : ∃ a, a = oldN L y := ⟨_, rfl⟩
  have HX : Hid (∀ n os, Calls Try.prog 20 #[.pointer (some ⟨t, 0, none⟩), .int .i64 x] (grow (W.drewN n) os) fun e w' => e = .returned (.int .i64 ax) ∧ ∃ q os', w' = grow ((grow (W.drewN n) os).drewN q) os') := fun n os => hax ▸ HG.out x hx n os
  have HY : Hid (∀ n os, Calls Try.prog 20 #[.pointer (some ⟨t, 0, none⟩), .int .i64 y] (grow (W.drewN n) os) fun e w' => e = .returned (.int .i64 ay) ∧ ∃ q os', w' = grow ((grow (W.drewN n) os).drewN q) os') := fun n os => hay ▸ HG.out y hy n os
  have HR : Hid (cmpO L x y = if compareInt ay ax ≠ 0 then compareInt ay ax else compareInt x y) := by show _ = _; rw [hax, hay]; rfl
  clear hax hay HG hx hy
  obtain ⟨c, hc⟩ : ∃ c, c = compareInt ay ax := ⟨_, rfl⟩
  have HCC : Hid (∀ n os, Calls Try.prog 34 #[.int .i64 ay, .int .i64 ax] (grow (W.drewN n) os) fun e w' => e = .returned (.int .i64 c) ∧ ∃ q os', w' = grow ((grow (W.drewN n) os).drewN q) os') := fun n os => hc ▸ HC2.out ay ax n os
  rw [← hc] at HR
  clear hc HC2
  by_cases h0 : c = 0
  · have HR2 : Hid (cmpO L x y = compareInt x y) := by show _ = _; rw [HR.out, h0]; rfl
    have hd : (c != 0) = false := by simpa using h0
    have HD : Hid (∀ W, Calls Try.prog 34 #[.int .i64 x, .int .i64 y] W fun e w' => e = .returned (.int .i64 (cmpO L x y)) ∧ w' = W) := fun W => HR2.out ▸ HC.out x y W
    clear h0 HR HC HR2
    go_enter Try.func33, Try.ntmps33
    go_wp2_with fail
    refine wp_region_quiet_grown (by assumption) (by kernel_rfl) ?_
    iterate 3 (quiet_step ((go_at_call 20; exact Calls.grown_of (HY.out _ _))))
    repeat (quiet_step (first | (go_at_call 34; exact Calls.grown_of (HCC.out _ _)) | (go_at_call 20; exact Calls.grown_of (HX.out _ _))))
    refine wpQuiet_nil ?_
    intro w17 hw'
    obtain ⟨⟨nq, osq⟩, hw''⟩ := hw'
    subst hw''
    go_wp2_with fail
    refine (HD.out _).mono ?_
    rintro e w1 ⟨rfl, rfl⟩
    go_wp2_with fail
    go_ret
    exact ⟨rfl, _, _, rfl⟩
  · have HR2 : Hid (cmpO L x y = c) := by show _ = _; rw [HR.out, if_pos h0]
    have hd : (c != 0) = true := by simpa using h0
    clear h0 HR HC
    go_enter Try.func33, Try.ntmps33
    go_wp2_with fail
    refine wp_region_quiet_grown (by assumption) (by kernel_rfl) ?_
    iterate 3 (quiet_step ((go_at_call 20; exact Calls.grown_of (HY.out _ _))))
    repeat (quiet_step (first | (go_at_call 34; exact Calls.grown_of (HCC.out _ _)) | (go_at_call 20; exact Calls.grown_of (HX.out _ _))))
    refine wpQuiet_nil ?_
    intro w17 hw'
    obtain ⟨⟨nq, osq⟩, hw''⟩ := hw'
    subst hw''
    go_wp2
    go_ret
    exact ⟨by rw [HR2.out]; rfl, _, _, rfl⟩
end Go.Proofs.Ytfmgmelgfnppkaa
