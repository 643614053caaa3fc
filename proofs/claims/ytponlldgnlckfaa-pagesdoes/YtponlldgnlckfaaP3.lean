/-
  The contracts of the program's New, Get, Of, At, and of isSpot.
-/
import Derived.Test.YtponlldgnlckfaaP2
set_option maxRecDepth 100000
namespace Go.Proofs.Ytponlldgnlckfaa
open Go.RowKit

theorem nine_after (w : World) (y : Pg) (o : Obj) : RowAt ((w.alloc (.cells (pc y) 45)).alloc o) w.heap.size 45 (pc y).toList := (RowAt.new w (pc y) 45).alloc o
theorem bel2 (w : World) (o o' : Obj) : Below w.heap.size w ((w.alloc o).alloc o') := bel_trans (below_alloc _ _) (below_alloc _ _) (Nat.le_refl _)

set_option maxHeartbeats 1000000 in
theorem pnew (w0 w : World) (hb : Below w0.heap.size w0 w) : Calls Try.prog 11 #[] w fun e w' => ∃ t mp mf ms, e = .returned (.pointer (some ⟨t, 0, none⟩)) ∧ PT w0 w' t mp mf ms [] ∧ Below w.heap.size w w' := by
  have hmm := @run_makeMap Try.prog
  have H0 := hid hb
  have HS := hid hb.size
  clear hb
  go_enter Try.func11, Try.ntmps11
  go_wp2
  go_ret
  have hw3 : Below w.heap.size w (((w.alloc (.map #[] 0)).alloc (.map #[] 0)).alloc (.map #[] 0)) := bel_trans (bel2 _ _ _) (below_alloc _ _) (Nat.le_refl _)
  have hw4 := fun o => bel_trans hw3 (below_alloc _ o) (Nat.le_refl _)
  have hs := HS.out
  refine ⟨w.heap.size + 3, w.heap.size, w.heap.size + 1, w.heap.size + 2, rfl, ⟨?_, ?_, ?_, ?_, by omega, by omega, bel_trans H0.out (hw4 _) (Nat.le_refl _)⟩, hw4 _⟩
  · have := RowAt.new (((w.alloc (.map #[] 0)).alloc (.map #[] 0)).alloc (.map #[] 0)) #[.int .i64 0, .map (some w.heap.size), .map (some (w.heap.size + 1)), .map (some (w.heap.size + 2))] 66
    simp only [World.size_alloc] at this
    exact this
  · have := (((MapG.new 3 mkI w).below (below_alloc _ (.map #[] 0))).below (below_alloc _ (.map #[] 0))).below (below_alloc _ (.cells #[.int .i64 0, .map (some w.heap.size), .map (some (w.heap.size + 1)), .map (some (w.heap.size + 2))] 66))
    refine MapG.congr this rfl fun x => ?_
    have : has [] x = false := by cases h : has [] x with | false => rfl | true => have := (has_iff [] x).1 h; simp at this; omega
    simp [GP, this]
  · have := ((MapG.new 24 mkK (w.alloc (.map #[] 0))).below (below_alloc _ (.map #[] 0))).below (below_alloc _ (.cells #[.int .i64 0, .map (some w.heap.size), .map (some (w.heap.size + 1)), .map (some (w.heap.size + 2))] 66))
    rw [World.size_alloc] at this
    refine MapG.congr this rfl fun x => ?_
    unfold GF ofL
    by_cases h : 0 ≤ x.1 <;> simp [h, fx]
  · have := (MapG.new 73 mkK ((w.alloc (.map #[] 0)).alloc (.map #[] 0))).below (below_alloc _ (.cells #[.int .i64 0, .map (some w.heap.size), .map (some (w.heap.size + 1)), .map (some (w.heap.size + 2))] 66))
    rw [World.size_alloc, World.size_alloc] at this
    refine MapG.congr this rfl fun x => ?_
    unfold GS atL
    by_cases h : x.1 = 0 <;> simp [h, fx]

/-- The table's head, and its map of pages. -/
structure QT (w : World) (t mp n : Nat) (v0 v2 v3 : Value) (L : List Pg) : Prop where
  h : RowAt w t 66 [v0, .map (some mp), v2, v3]
  p : MapG 3 mkI w mp n (GP L)
theorem QT.c1 {w : World} {t mp n : Nat} {v0 v2 v3 : Value} {L : List Pg} (h : QT w t mp n v0 v2 v3 L) : w.cell? ⟨t, 1, none⟩ = some (.map (some mp)) := by rw [h.h.cell]; rfl
theorem QT.later {w w' : World} {t mp n : Nat} {v0 v2 v3 : Value} {L : List Pg} (h : QT w t mp n v0 v2 v3 L) (hb : Below w.heap.size w w') : QT w' t mp n v0 v2 v3 L := ⟨h.h.below hb h.h.lt, h.p.below hb⟩
theorem PT.q {w0 w : World} {t mp mf ms : Nat} {L : List Pg} (h : PT w0 w t mp mf ms L) : QT w t mp (L.countP liveP) (.int .i64 L.length) (.map (some mf)) (.map (some ms)) L := ⟨h.h, h.p⟩
section
variable {w0 w : World} {t mp mf ms : Nat} {L : List Pg}
set_option maxHeartbeats 1000000 in
theorem qget {n : Nat} {v0 v2 v3 : Value} (h : QT w t mp n v0 v2 v3 L) {id : Int} (hi : (Lit.int .i64 id).wf = true) :
    Calls Try.prog 19 #[.pointer (some ⟨t, 0, none⟩), .int .i64 id] w fun e w' => e = .returned (.tuple #[pv (getL L id), .int .i64 (getE L id)]) ∧ Below w.heap.size w w' := by
  have h1 := h.later (below_alloc w (.cells #[.int .i64 0, .int .i64 0, .int .i64 0, .int .i64 0, .int .i64 0, .int .i64 0, .int .i64 0, .bool false, .bool false] 45))
  have hc := h1.c1
  have hlk := h1.p.look keyed3 Try.underlying62 zero45 (keyI hi)
  rw [GP_get, GP_some] at hlk
  unfold mkI at hlk
  have HG : Hid (getE L id = if has L id then 0 else 2) := rfl
  have HX : Hid (has L id = false → getL L id = gone) := fun h => by unfold getL; rw [h]; rfl
  obtain ⟨y, hy⟩ : ∃ y, y = getL L id := ⟨_, rfl⟩
  rw [← hy] at hlk HX ⊢
  unfold pv pc at hlk
  clear h h1 hy hi
  cases hh : has L id with
  | false =>
    rw [hh] at hlk HG HX
    have HE : Hid (getE L id = 2) := HG.out
    obtain rfl : y = gone := HX.out rfl
    simp only [gone] at hlk
    clear hh HG
    go_enter Try.func19, Try.ntmps19
    go_wp2
    refine bodyPost_ret (res45 rfl _ _ _ gone rfl (nine_after w gone _)) rfl ?_
    exact ⟨by rw [HE.out]; rfl, bel2 _ _ _⟩
  | true =>
    rw [hh] at hlk HG
    have HE : Hid (getE L id = 0) := HG.out
    clear hh HG HX
    go_enter Try.func19, Try.ntmps19
    go_wp2
    refine bodyPost_ret (res45 rfl _ _ _ y rfl (nine_after w y _)) rfl ?_
    exact ⟨by rw [HE.out]; rfl, bel2 _ _ _⟩

theorem pget (h : PT w0 w t mp mf ms L) {id : Int} (hi : (Lit.int .i64 id).wf = true) :
    Calls Try.prog 19 #[.pointer (some ⟨t, 0, none⟩), .int .i64 id] w fun e w' => e = .returned (.tuple #[pv (getL L id), .int .i64 (getE L id)]) ∧ Below w.heap.size w w' := qget h.q hi

set_option maxHeartbeats 1000000 in
theorem pof (h : PT w0 w t mp mf ms L) {f i : Int} (hf : (Lit.int .i64 f).wf = true) (hi : (Lit.int .i64 i).wf = true) :
    Calls Try.prog 21 #[.pointer (some ⟨t, 0, none⟩), .agg #[.int .i64 f, .int .i64 i]] w fun e w' => e = .returned (.int .i64 (ofL L f i)) ∧ Below w.heap.size w w' := by
  obtain ⟨w1, hw1⟩ : ∃ w1, w1 = w.alloc (.cells #[.int .i64 f, .int .i64 i] 24) := ⟨_, rfl⟩
  have hb1 : Below w.heap.size w w1 := hw1 ▸ below_alloc _ _
  have h1 := h.later hb1
  have hr : RowAt w1 w.heap.size 24 [.int .i64 f, .int .i64 i] := hw1 ▸ RowAt.new w #[.int .i64 f, .int .i64 i] 24
  have k0 : w1.cell? ⟨w.heap.size, 0, none⟩ = some (.int .i64 f) := by rw [hr.cell]; rfl
  have k1 : w1.cell? ⟨w.heap.size, 1, none⟩ = some (.int .i64 i) := by rw [hr.cell]; rfl
  have hc := h1.c2
  have hlk : ∀ n, (Instr.lookup 63 (.map (some mf)) (.agg #[.int .i64 f, .int .i64 i]) true).run Try.prog (w1.drewN n) = .ok (.tuple #[(GF L (f, i)).getD (.int .i64 0), .bool (GF L (f, i)).isSome]) (w1.drewN n) :=
    fun n => (h1.drewN n).f.look keyed24 Try.underlying63 zero3 (x := (f, i)) (key24 hf hi)
  have HW : Hid (w1 = w.alloc (.cells #[.int .i64 f, .int .i64 i] 24)) := hw1
  have HB := hid hb1
  rcases GF_get L (f, i) with ⟨-, e⟩ | ⟨e1, e⟩
  · rw [e] at hlk
    obtain ⟨z, hz⟩ : ∃ z, z = ofL L f i := ⟨_, rfl⟩
    rw [← hz]
    change ∀ n, (Instr.lookup 63 (.map (some mf)) (.agg #[.int .i64 f, .int .i64 i]) true).run Try.prog (w1.drewN n) = .ok (.tuple #[.int .i64 (ofL L f i), .bool true]) (w1.drewN n) at hlk
    rw [← hz] at hlk
    clear h h1 hr e hz hf hi hw1 hb1
    go_enter Try.func21, Try.ntmps21
    go_wp2_with fail
    rw [← HW.out]
    go_quiet (fail)
    go_wp2
    go_ret
    exact ⟨rfl, below_drawn HB.out _⟩
  · rw [e] at hlk
    change ∀ n, (Instr.lookup 63 (.map (some mf)) (.agg #[.int .i64 f, .int .i64 i]) true).run Try.prog (w1.drewN n) = .ok (.tuple #[.int .i64 0, .bool false]) (w1.drewN n) at hlk
    have HZ : Hid (ofL L f i = -1) := e1
    clear h h1 hr e e1 hf hi hw1 hb1
    go_enter Try.func21, Try.ntmps21
    go_wp2_with fail
    rw [← HW.out]
    go_quiet (fail)
    go_wp2
    go_ret
    exact ⟨by rw [HZ.out]; rfl, below_drawn HB.out _⟩

set_option maxHeartbeats 1000000 in
theorem patt (h : PT w0 w t mp mf ms L) {p a : Int} (hp : (Lit.int .i64 p).wf = true) (ha : (Lit.int .i64 a).wf = true) :
    Calls Try.prog 23 #[.pointer (some ⟨t, 0, none⟩), .int .i64 p, .int .i64 a] w fun e w' => e = .returned (.int .i64 (atL L p a)) ∧ w' = w := by
  have hc := h.c3
  have hlk : (Instr.lookup 64 (.map (some ms)) (.agg #[.int .i64 p, .int .i64 a]) true).run Try.prog w = .ok (.tuple #[(GS L (p, a)).getD (.int .i64 0), .bool (GS L (p, a)).isSome]) w :=
    h.s.look keyed73 Try.underlying64 zero3 (x := (p, a)) (key73 hp ha)
  rcases GS_get L (p, a) with ⟨-, e⟩ | ⟨e1, e⟩
  · rw [e] at hlk
    obtain ⟨z, hz⟩ : ∃ z, z = atL L p a := ⟨_, rfl⟩
    rw [← hz]
    change (Instr.lookup 64 (.map (some ms)) (.agg #[.int .i64 p, .int .i64 a]) true).run Try.prog w = .ok (.tuple #[.int .i64 (atL L p a), .bool true]) w at hlk
    rw [← hz] at hlk
    clear h e hz hp ha
    go_enter Try.func23, Try.ntmps23
    go_wp2
    go_ret
    exact ⟨rfl, rfl⟩
  · rw [e] at hlk
    change (Instr.lookup 64 (.map (some ms)) (.agg #[.int .i64 p, .int .i64 a]) true).run Try.prog w = .ok (.tuple #[.int .i64 0, .bool false]) w at hlk
    have HZ : Hid (atL L p a = -1) := e1
    clear h e e1 hp ha
    go_enter Try.func23, Try.ntmps23
    go_wp2
    go_ret
    exact ⟨by rw [HZ.out]; rfl, rfl⟩
end
/-- Whether a page can be put there. -/
theorem pspot (p a : Int) (w : World) : Calls Try.prog 39 #[.int .i64 p, .int .i64 a] w fun e w' => e = .returned (.bool (!badP p a)) ∧ w' = w := by
  have HB : Hid (badP p a = false ↔ 0 ≤ p ∧ p ≤ 2 ∧ 0 ≤ a ∧ (p = 0 → a = 0)) := bad_iff p a
  by_cases h0 : p = 0
  · subst h0
    by_cases ha : a = 0
    · subst ha
      go_enter Try.func39, Try.ntmps39
      go_wp2
      go_ret
      exact ⟨rfl, rfl⟩
    · have HR : Hid (badP 0 a = true) := by show _ = _; cases hq : badP 0 a with | true => rfl | false => exact absurd ((HB.out.1 hq).2.2.2 rfl) ha
      have hd : (a == 0) = false := by simpa using ha
      clear ha HB
      go_enter Try.func39, Try.ntmps39
      go_wp2
      go_ret
      exact ⟨by rw [HR.out]; rfl, rfl⟩
  · have hd : (p == 0) = false := by simpa using h0
    by_cases h12 : p = 1 ∨ p = 2
    · by_cases ha : 0 ≤ a
      · have HR : Hid (badP p a = false) := HB.out.2 (by omega)
        have d3 : decide (a ≥ 0) = true := by simpa using ha
        have d4 : decide (0 ≤ a) = true := by simpa using ha
        clear HB h0 ha
        rcases h12 with rfl | rfl
        all_goals
          go_enter Try.func39, Try.ntmps39
          go_wp2
          go_ret
          exact ⟨by rw [HR.out]; rfl, rfl⟩
      · have HR : Hid (badP p a = true) := by show _ = _; cases hq : badP p a with | true => rfl | false => exact absurd (HB.out.1 hq).2.2.1 ha
        have d3 : decide (a ≥ 0) = false := by simpa using ha
        have d4 : decide (0 ≤ a) = false := by simpa using ha
        clear HB h0 ha
        rcases h12 with rfl | rfl
        all_goals
          go_enter Try.func39, Try.ntmps39
          go_wp2
          go_ret
          exact ⟨by rw [HR.out]; rfl, rfl⟩
    · have HR : Hid (badP p a = true) := by show _ = _; cases hq : badP p a with | true => rfl | false => have := HB.out.1 hq; omega
      have d1 : (p == 1) = false := by simp; omega
      have d2 : (p == 2) = false := by simp; omega
      clear HB h0 h12
      go_enter Try.func39, Try.ntmps39
      go_wp2
      go_ret
      exact ⟨by rw [HR.out]; rfl, rfl⟩
end Go.Proofs.Ytponlldgnlckfaa
