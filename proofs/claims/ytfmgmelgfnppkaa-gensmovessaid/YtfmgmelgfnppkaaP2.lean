/-
  The program's lists at a block; the contracts of New, has, of, Group, Oldness, isNumber, Drop.
-/
import Derived.Test.YtfmgmelgfnppkaaP1
import Derived.Laws.ResultCell
import Derived.RegionTactic
import Derived.ChangeAlike
import Derived.BigRegion
import Derived.Deep.RegionHeld3
import Derived.Deep.RegionLaw
import Derived.Deep.CutBlock
import Derived.Deep.DeepCutAuto
namespace Go.Proofs.Ytfmgmelgfnppkaa
open Go.RowKit

/-- The lists at block t, their map at block m. -/
structure LsIs (w : World) (t m : Nat) (L : List En) : Prop where
  h : RowAt w t 52 [.map (some m)]
  m : MapIs w m L
  ok : Ok L
section
variable {w w' : World} {t m : Nat} {L : List En}
theorem LsIs.c0 (h : LsIs w t m L) : w.cell? ⟨t, 0, none⟩ = some (.map (some m)) := by rw [h.h.cell]; rfl
theorem LsIs.lt (h : LsIs w t m L) : t < w.heap.size ∧ m < w.heap.size := ⟨h.h.lt, h.m.lt⟩
theorem LsIs.ne (h : LsIs w t m L) : t ≠ m := h.m.not_row h.h
theorem LsIs.below (h : LsIs w t m L) (hb : Below w.heap.size w w') : LsIs w' t m L := ⟨h.h.below hb h.h.lt, h.m.below hb, h.ok⟩
theorem LsIs.alloc (h : LsIs w t m L) (o : Obj) : LsIs (w.alloc o) t m L := h.below (below_alloc _ _)
theorem LsIs.drewN (h : LsIs w t m L) (n : Nat) : LsIs (w.drewN n) t m L := ⟨h.h.drewN n, h.m.block rfl, h.ok⟩
end

/-- The group and the age of an id; -1 where it is not there. -/
def grpN (L : List En) (i : Int) : Int := match lk L i with | none => -1 | some x => x.g
def oldN (L : List En) (i : Int) : Int := match lk L i with | none => -1 | some x => x.a
theorem grpN_some {L : List En} {i : Int} {x : En} (h : lk L i = some x) : grpN L i = x.g := by simp [grpN, h]
theorem oldN_some {L : List En} {i : Int} {x : En} (h : lk L i = some x) : oldN L i = x.a := by simp [oldN, h]
theorem grpN_none {L : List En} {i : Int} (h : lk L i = none) : grpN L i = -1 := by simp [grpN, h]
theorem oldN_none {L : List En} {i : Int} (h : lk L i = none) : oldN L i = -1 := by simp [oldN, h]

theorem lkV_is (L : List En) (i : Int) : ∃ g a, lkV L i = .agg #[.int .i64 g, .int .i64 a] := by
  unfold lkV
  cases lk L i with
  | none => exact ⟨0, 0, rfl⟩
  | some x => exact ⟨x.g, x.a, rfl⟩

theorem bel_drew {B : Nat} {w w' : World} (h : Below B w w') (n : Nat) : Below B w (w'.drewN n) := ⟨h.os, h.tape, h.output, h.size, h.block⟩
theorem bel_trans {B : Nat} {u v w : World} (h : Below B u v) (k : Below v.heap.size v w) (hB : B ≤ u.heap.size) : Below B u w := h.trans (k.mono (Nat.le_trans hB h.size))

theorem pnew (w : World) : Calls Try.prog 10 #[] w fun e w' => ∃ t m, e = .returned (.pointer (some ⟨t, 0, none⟩)) ∧ LsIs w' t m [] ∧ Below w.heap.size w w' ∧ w.heap.size ≤ t ∧ w.heap.size ≤ m := by
  have hmm := @run_makeMap Try.prog
  go_enter Try.func10, Try.ntmps10
  go_wp2
  go_ret
  refine ⟨w.heap.size + 1, w.heap.size, rfl, ⟨?_, (MapIs.new w).below (below_alloc _ _), Ok.nil⟩, ?_, by omega, Nat.le_refl _⟩
  · have := RowAt.new (w.alloc (.map #[] 0)) #[.map (some w.heap.size)] 52
    rw [World.size_alloc] at this
    exact this
  · exact bel_trans (below_alloc _ _) (below_alloc _ _) (Nat.le_refl _)

theorem phas (t m : Nat) (L : List En) (i : Int) (w : World) (h : LsIs w t m L) (hi : (Lit.int .i64 i).wf = true) :
    Calls Try.prog 36 #[.pointer (some ⟨t, 0, none⟩), .int .i64 i] w fun e w' => e = .returned (.bool (lk L i).isSome) ∧ Below w.heap.size w w' := by
  have hc := h.c0
  have hlk := h.m.look hi
  obtain ⟨g, a, e⟩ := lkV_is L i
  rw [e] at hlk
  obtain ⟨b, hb⟩ : ∃ b, b = (lk L i).isSome := ⟨_, rfl⟩
  rw [← hb] at hlk ⊢
  clear e hb h
  go_enter Try.func36, Try.ntmps36
  go_wp2
  go_ret
  exact ⟨rfl, below_alloc _ _⟩

theorem pnum (i : Int) (w : World) : Calls Try.prog 39 #[.int .i64 i] w fun e w' => e = .returned (.bool (okI i)) ∧ w' = w := by
  by_cases h0 : 0 ≤ i
  · by_cases h1 : i ≤ 16777216
    · have HP : Hid (okI i = true) := okI_iff.2 ⟨h0, h1⟩
      go_enter Try.func39, Try.ntmps39
      go_wp2
      go_ret
      exact ⟨by rw [HP.out]; rfl, rfl⟩
    · have HP : Hid (okI i = false) := okI_not.2 (by omega)
      have hd : decide (i ≤ 16777216) = false := by simp; omega
      go_enter Try.func39, Try.ntmps39
      go_wp2
      go_ret
      exact ⟨by rw [HP.out]; rfl, rfl⟩
  · have HP : Hid (okI i = false) := okI_not.2 (by omega)
    have hd : decide (0 ≤ i) = false := by simp; omega
    go_enter Try.func39, Try.ntmps39
    go_wp2
    go_ret
    exact ⟨by rw [HP.out]; rfl, rfl⟩

theorem res56 {fn : Func} {p : Tmp} (h : fn.results = #[.cell p 56]) (tmps : Array Value) (w : World) (g : Nat) (v0 v1 : Value)
    (hp : tmps.getD p undef = .pointer (some ⟨g, 0, none⟩)) (hg : RowAt w g 56 [v0, v1]) : (results fn tmps).run Try.prog w = .ok (.agg #[v0, v1]) w :=
  results_cell_row h tmps w g 56 #[v0, v1] (0, 0) _ hp hg Try.underlying56 rfl (by kernel_rfl)

theorem two_boxes (w : World) (v0 v1 : Value) (o : Obj) : RowAt ((w.alloc (.cells #[v0, v1] 56)).alloc o) w.heap.size 56 [v0, v1] := (RowAt.new w #[v0, v1] 56).alloc o
set_option maxHeartbeats 1000000 in
theorem pofX (t m : Nat) (L : List En) (i : Int) (w : World) (h : LsIs w t m L) (hi : (Lit.int .i64 i).wf = true) :
    Calls Try.prog 35 #[.pointer (some ⟨t, 0, none⟩), .int .i64 i] w fun e w' => e = .returned (.agg #[.int .i64 (grpN L i), .int .i64 (oldN L i)]) ∧ ∃ o1 o2, w' = (w.alloc o1).alloc o2 := by
  have h1 := h.alloc (.cells #[.int .i64 0, .int .i64 0] 56)
  have hc := h1.c0
  have hlk := h1.m.look hi
  clear h1
  cases hl : lk L i with
  | none =>
    have e : lkV L i = .agg #[.int .i64 0, .int .i64 0] := by simp [lkV, hl, sv]
    rw [hl, e] at hlk
    rw [grpN_none hl, oldN_none hl]
    clear hl e h
    go_enter Try.func35, Try.ntmps35
    go_wp2
    refine bodyPost_ret (res56 rfl _ _ _ _ _ rfl (two_boxes w _ _ _)) rfl ?_
    exact ⟨rfl, _, _, rfl⟩
  | some x =>
    have e : lkV L i = .agg #[.int .i64 x.g, .int .i64 x.a] := by simp [lkV, hl, sv]
    rw [hl, e] at hlk
    rw [grpN_some hl, oldN_some hl]
    clear hl e h
    go_enter Try.func35, Try.ntmps35
    go_wp2
    refine bodyPost_ret (res56 rfl _ _ _ _ _ rfl (two_boxes w _ _ _)) rfl ?_
    exact ⟨rfl, _, _, rfl⟩

theorem pof (t m : Nat) (L : List En) (i : Int) (w : World) (h : LsIs w t m L) (hi : (Lit.int .i64 i).wf = true) :
    Calls Try.prog 35 #[.pointer (some ⟨t, 0, none⟩), .int .i64 i] w fun e w' => e = .returned (.agg #[.int .i64 (grpN L i), .int .i64 (oldN L i)]) ∧ Below w.heap.size w w' :=
  (pofX t m L i w h hi).mono fun _ _ ⟨he, _, _, hw⟩ => ⟨he, by rw [hw]; exact bel_trans (below_alloc _ _) (below_alloc _ _) (Nat.le_refl _)⟩

theorem plain3 : Try.prog.plainKey 3 = true := by kernel_rfl
theorem field56 (v0 v1 v : Value) (i : Nat) (hi : i < 2) (w : World) (h : (#[v0, v1] : Array Value)[i]? = some v) : (Instr.field 56 (.agg #[v0, v1]) i).run Try.prog w = .ok v w := by
  have p := run_part_plain (P := Try.prog) w plain3 (xs := #[v0, v1]) (off := i) (v := v) h
  have : i = 0 ∨ i = 1 := by omega
  rcases this with rfl | rfl <;> simp [Instr.field, run_underlying Try.underlying56, asAgg, p]

theorem pgroup (t m : Nat) (L : List En) (i : Int) (w : World) (h : LsIs w t m L) (hi : (Lit.int .i64 i).wf = true) :
    Calls Try.prog 19 #[.pointer (some ⟨t, 0, none⟩), .int .i64 i] w fun e w' => e = .returned (.int .i64 (grpN L i)) ∧ Below w.heap.size w w' := by
  have HO : Hid (Calls Try.prog 35 #[.pointer (some ⟨t, 0, none⟩), .int .i64 i] w fun e w' => e = .returned (.agg #[.int .i64 (grpN L i), .int .i64 (oldN L i)]) ∧ Below w.heap.size w w') := pof t m L i w h hi
  obtain ⟨v0, e0⟩ : ∃ v, v = grpN L i := ⟨_, rfl⟩
  obtain ⟨v1, e1⟩ : ∃ v, v = oldN L i := ⟨_, rfl⟩
  rw [← e0, ← e1] at HO
  rw [← e0]
  clear e0 e1 h
  have hf := fun w => field56 (.int .i64 v0) (.int .i64 v1) (.int .i64 v0) 0 (by omega) w rfl
  go_enter Try.func19, Try.ntmps19
  go_wp2_with fail
  refine HO.out.mono ?_
  rintro e w1 ⟨rfl, hb⟩
  go_wp2_with fail
  go_ret
  exact ⟨rfl, hb⟩
theorem poldX (t m : Nat) (L : List En) (i : Int) (w : World) (h : LsIs w t m L) (hi : (Lit.int .i64 i).wf = true) :
    Calls Try.prog 20 #[.pointer (some ⟨t, 0, none⟩), .int .i64 i] w fun e w' => e = .returned (.int .i64 (oldN L i)) ∧ ∃ o1 o2, w' = (w.alloc o1).alloc o2 := by
  have HO : Hid (Calls Try.prog 35 #[.pointer (some ⟨t, 0, none⟩), .int .i64 i] w fun e w' => e = .returned (.agg #[.int .i64 (grpN L i), .int .i64 (oldN L i)]) ∧ ∃ o1 o2, w' = (w.alloc o1).alloc o2) := pofX t m L i w h hi
  obtain ⟨v0, e0⟩ : ∃ v, v = grpN L i := ⟨_, rfl⟩
  obtain ⟨v1, e1⟩ : ∃ v, v = oldN L i := ⟨_, rfl⟩
  rw [← e0, ← e1] at HO
  rw [← e1]
  clear e0 e1 h
  have hf := fun w => field56 (.int .i64 v0) (.int .i64 v1) (.int .i64 v1) 1 (by omega) w rfl
  go_enter Try.func20, Try.ntmps20
  go_wp2_with fail
  refine HO.out.mono ?_
  rintro e w1 ⟨rfl, o1, o2, hb⟩
  have HB : Hid (w1 = (w.alloc o1).alloc o2) := hb
  clear hb
  go_wp2_with fail
  go_ret
  exact ⟨rfl, o1, o2, HB.out⟩
theorem poldness (t m : Nat) (L : List En) (i : Int) (w : World) (h : LsIs w t m L) (hi : (Lit.int .i64 i).wf = true) :
    Calls Try.prog 20 #[.pointer (some ⟨t, 0, none⟩), .int .i64 i] w fun e w' => e = .returned (.int .i64 (oldN L i)) ∧ Below w.heap.size w w' :=
  (poldX t m L i w h hi).mono fun _ _ ⟨he, _, _, hw⟩ => ⟨he, by rw [hw]; exact bel_trans (below_alloc _ _) (below_alloc _ _) (Nat.le_refl _)⟩
end Go.Proofs.Ytfmgmelgfnppkaa
