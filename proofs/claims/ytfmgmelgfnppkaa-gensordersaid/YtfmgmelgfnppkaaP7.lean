/-
  The contracts of Age and Move.
-/
import Derived.Test.YtfmgmelgfnppkaaP6
namespace Go.Proofs.Ytfmgmelgfnppkaa
open Go.RowKit

theorem chg_age (g : Int) : chg g (fun x => x) older = age g := by
  funext x
  unfold chg age old older
  by_cases h : x.g = g
  · rw [if_pos h]
    by_cases h3 : x.a < 3
    · simp [h, h3]
    · simp [h, h3]; exact En.eq rfl h.symm rfl
  · simp [h]
theorem oth_age (g : Int) : oth g (fun x => x) older = old g := by
  funext x
  unfold oth old older
  by_cases h3 : x.a < 3
  · have : ¬ x.a + 1 = x.a := by omega
    simp [h3, this]
  · simp [h3]
theorem chg_mv (f t : Int) : chg f (fun _ => t) (fun x => x) = mv f t := by
  funext x
  unfold chg mv
  by_cases h : x.g = f <;> simp [h]
theorem oth_mv {f t : Int} (hm : f ≠ t) : oth f (fun _ => t) (fun x => x) = fun x => x.g == f := by
  funext x
  unfold oth
  by_cases h : x.g = f
  · have : ¬ t = f := fun e => hm e.symm
    simp [h, this]
  · simp [h]
theorem oth_mv0 (f : Int) (L : List En) : L.countP (oth f (fun _ => f) (fun x => x)) = 0 := by
  rw [List.countP_eq_zero]
  intro x _
  simp [oth]
  intro h; exact h.symm
theorem mv_same (f : Int) (L : List En) : turn (mv f f) L = L := by
  unfold turn
  conv => rhs; rw [← List.map_id L]
  refine List.map_congr_left fun x _ => ?_
  unfold mv
  split
  · rename_i h; exact En.eq rfl h.symm rfl
  · rfl

set_option maxHeartbeats 1000000 in
theorem page (t m : Nat) (L : List En) (g : Int) (w : World) (h : LsIs w t m L) (hL : L.length < 1000000) :
    Calls Try.prog 22 #[.pointer (some ⟨t, 0, none⟩), .int .i64 g] w fun e w' => e = .returned (.int .i64 (ageN L g : Nat)) ∧ LsIs w' t m (ageL L g) ∧ Apart m w w' := by
  have HO : Ok (turn (chg g (fun x => x) older) L) := by rw [chg_age]; exact ageL_ok h.ok g
  have HH := pchange t m L g (fun x => x) older 38 [] w h hL (Or.inl ⟨rfl, rfl⟩) (fun W _ xi xg xa hx => page1 xg xa (h.ok.rng _ hx).2.2.1 (h.ok.rng _ hx).2.2.2 W) HO
  rw [chg_age, oth_age] at HH
  have HC : Hid (Calls Try.prog 37 #[.pointer (some ⟨t, 0, none⟩), .int .i64 g, .func (.func 38) #[] #[]] w fun e w' => e = .returned (.int .i64 (ageN L g : Nat)) ∧ LsIs w' t m (ageL L g) ∧ Apart m w w') := HH
  clear HH HO h
  go_enter Try.func22, Try.ntmps22
  go_wp2_with fail
  refine HC.out.mono ?_
  rintro e w1 ⟨rfl, h1, h2⟩
  go_wp2_with fail
  go_ret
  exact ⟨rfl, h1, h2⟩

set_option maxHeartbeats 1000000 in
theorem pmove (t m : Nat) (L : List En) (f b : Int) (w : World) (h : LsIs w t m L) (hL : L.length < 1000000) :
    Calls Try.prog 23 #[.pointer (some ⟨t, 0, none⟩), .int .i64 f, .int .i64 b] w fun e w' => e = .returned (.int .i64 (moveN L f b : Nat)) ∧ LsIs w' t m (moveL L f b) ∧ Apart m w w' := by
  have HN : Hid (∀ w, Calls Try.prog 39 #[.int .i64 b] w fun e w' => e = .returned (.bool (okI b)) ∧ w' = w) := pnum b
  cases hb : okI b with
  | false =>
    have HL : Hid (moveL L f b = L) := by show _ = _; simp [moveL, may, hb]
    have HZ : Hid (moveN L f b = 0) := by show _ = _; simp [moveN, may, hb]
    have H0 : Hid (LsIs w t m L) := h
    rw [hb] at HN
    clear hb h
    go_enter Try.func23, Try.ntmps23
    go_wp2_with fail
    refine (HN.out _).mono ?_
    rintro e w1 ⟨rfl, rfl⟩
    go_wp2
    go_ret
    exact ⟨by rw [HZ.out]; rfl, by rw [HL.out]; exact H0.out.alloc _, Apart.ofBelow (below_alloc _ _)⟩
  | true =>
    have h1 := h.alloc (.cells #[.int .i64 b] 3)
    have hbx := RowAt.new w #[.int .i64 b] 3
    have HE : moveL L f b = turn (mv f b) L := by
      unfold moveL
      by_cases hm : f = b
      · subst hm; simp [may, mv_same]
      · simp [may, hb, hm]
    have HZ : L.countP (oth f (fun _ => b) (fun x => x)) = moveN L f b := by
      unfold moveN
      by_cases hm : f = b
      · subst hm; simp [may, oth_mv0]
      · rw [oth_mv hm]; simp [may, hb, hm, cntL]
    have HO : Ok (turn (chg f (fun _ => b) (fun x => x)) L) := by rw [chg_mv, ← HE]; exact moveL_ok h.ok f b
    have hne : w.heap.size ≠ m := by have := h.lt.2; omega
    have HH := pchange t m L f (fun _ => b) (fun x => x) 40 [.pointer (some ⟨w.heap.size, 0, none⟩)] _ h1 hL (Or.inr ⟨_, rfl, rfl⟩) (fun W hA xi xg xa hx => pmove1 xg xa b w.heap.size W (by rw [(hbx.apart hA hne).cell]; rfl)) HO
    rw [chg_mv, HZ, ← HE] at HH
    have HC : Hid (Calls Try.prog 37 #[.pointer (some ⟨t, 0, none⟩), .int .i64 f, .func (.func 40) #[] #[.pointer (some ⟨w.heap.size, 0, none⟩)]] (w.alloc (.cells #[.int .i64 b] 3)) fun e w' => e = .returned (.int .i64 (moveN L f b : Nat)) ∧ LsIs w' t m (moveL L f b) ∧ Apart m (w.alloc (.cells #[.int .i64 b] 3)) w') := HH
    rw [hb] at HN
    clear hb HH HO HE HZ h h1 hbx
    go_enter Try.func23, Try.ntmps23
    go_wp2_with fail
    refine (HN.out _).mono ?_
    rintro e w1 ⟨rfl, rfl⟩
    go_wp2_with fail
    refine HC.out.mono ?_
    rintro e w1 ⟨rfl, h1, h2⟩
    go_wp2_with fail
    go_ret
    exact ⟨rfl, h1, (Apart.ofBelow (below_alloc _ _)).trans h2⟩
end Go.Proofs.Ytfmgmelgfnppkaa
