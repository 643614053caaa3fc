/-
  Chain.
-/
import Derived.Test.YtbceadnhfihlfaaP3
namespace Go.Proofs.Ytbceadnhfihlfaa
open Go.RowKit Go.Shelf
attribute [local go_sem] Oper.semAt_some

def iv (p : Int) : Value := .int .i64 p
theorem info3 : (Try.prog.info? 3).map (fun i => (i.zero, i.size, i.bytes)) = some (some (.int .i64 0), 1, 8) := by kernel_rfl
theorem below_put {B : Nat} {w A : World} {l : Nat} (o' : Obj) (h : Below B w A) (hl : B ≤ l) : Below B w (A.putObj l o') :=
  ⟨h.os, h.tape, h.output, by rw [World.putObj_size]; exact h.size, fun k hk => (World.putObj_heap_other (by omega)).trans (h.block k hk)⟩
theorem boxed_own {β : Type} {B : Nat} {t : TypeId} (f : β → Value) : Own (fun (s : β) W => Boxed W B t (f s)) := fun s A B' row hs hg hr => by
  refine hs.kept hg ?_
  intro e
  obtain ⟨o, ho, hc⟩ := hr _ e.symm
  have : A.heap[B]? = _ := hs
  rw [this] at ho
  cases ho
  cases hc

set_option maxRecDepth 100000 in
set_option maxHeartbeats 2000000 in
theorem pchain (B t : Nat) (G : Gr) (x : Int) (w : World) (hT : TreeIs B w t G) :
    Calls Try.prog 23 #[.pointer (some ⟨t, 0, none⟩), .int .i64 x] w fun e w' => ∃ v, e = .returned v ∧ w'.ownsRow w.heap.size 3 1 v (chain G x).length ((chain G x).map iv) ∧ Below w.heap.size w w' := by
  obtain ⟨i0, hi, hz0, hz1, hz2⟩ := info_parts info3
  refine (callsIn_wide (n := 4)).1 ?_
  refine callsIn_of_wp_marks Try.func23 rfl trivial ?_ rfl
  simp only [Try.ntmps23, List.size_toArray, List.length_cons, List.length_nil, Nat.reduceAdd, Nat.reduceSub, Array.replicate_succ, Array.replicate_zero, List.push_toArray, List.append_toArray, List.nil_append, List.cons_append]
  have hok := hT.ok
  gi_wp2_with fail
  refine ⟨trivial, ?_⟩
  gi_at_call 30
  refine (up_in _ _ _ _).mono ?_
  rintro e w' ⟨rfl, rfl⟩
  gi_wp2_with fail
  have hs := Boxed.new w 35 (.slice none 0 0)
  have hB1 := below_alloc w (.cells #[.slice none 0 0] 35)
  obtain ⟨w1, hw1⟩ : ∃ w1, w1 = w.alloc (.cells #[.slice none 0 0] 35) := ⟨_, rfl⟩
  have hz : w1.heap.size = w.heap.size + 1 := by rw [hw1]; simp
  rw [← hw1] at hs hB1
  have hu := upW_size w1 t x
  have hb2 := upW_below w1 t x
  have hst := up_stops 3 (by omega) B t w.heap.size G x w w1 hT rfl hB1
  have hB2 : Below w.heap.size w (upW w1 t x) := hB1.trans (hb2.mono (by omega))
  have hs2 : Boxed (upW w1 t x) w.heap.size 35 (.slice none 0 0) := (hb2.block _ (by omega)).trans hs
  have ht2 : Boxed (upW w1 t x) w1.heap.size 24 (.pointer (some ⟨t, 0, none⟩)) := upW_t w1 t x
  rw [← hw1]
  rw [show (w1.alloc (.cells #[.pointer (some ⟨t, 0, none⟩)] 24)).alloc (.cells #[.int .i64 x] 3) = upW w1 t x from rfl]
  rw [← hz]
  generalize upW w1 t x = W0 at *
  refine wpIn_rangeFunc_ownF rfl (by omega) (gf := 35) rfl trivial (enters_of Try.func35 (by kernel_rfl) rfl) hst Kp.t (Kp.b (by omega) (by omega)) (Below.refl _ _) (fun _ => rfl)
    (fun pre W => (∃ v, Boxed W w.heap.size 35 v ∧ W.ownsRow w.heap.size 3 1 v pre.length (pre.map iv) ∧ True) ∧ Boxed W w1.heap.size 24 (.pointer (some ⟨t, 0, none⟩)) ∧ Below w.heap.size w W)
    (fun _ _ _ => False) ?_ (fun _ _ _ _ _ hs _ _ => hs) ⟨⟨_, hs2, World.ownsRow_nil _ _ _ _, trivial⟩, ht2, hB2⟩
    (fun y => { tmps := #[.pointer (some ⟨t, 0, none⟩), .int .i64 x, undef, undef, .slice none 0 0, .pointer (some ⟨w.heap.size, 0, none⟩), .int .i64 y, .pointer (some ⟨t, 0, none⟩), .int .i64 x, .func (.func 35) #[] #[.pointer (some ⟨w1.heap.size + 1, 0, none⟩), .pointer (some ⟨w1.heap.size, 0, none⟩)], .int .i64 y, undef, undef, undef, undef, undef], defers := [] }) ?assign ?body ?done ?stop
  · refine OwnFrom.and (Own.from ?_ _) (OwnFrom.and (Own.from (boxed_own _) _) (ownFrom_below (Nat.le_refl _) (by omega)))
    exact holdsRow_own w.heap.size w.heap.size 35 3 1 (fun pre : List Int => pre.length) (fun pre => pre.map iv) (fun _ _ => True)
  case assign =>
    intro l x W K hK
    clear hz hw1 hu
    gi_wp2
    exact hK
  case body =>
    rintro l pre y W ⟨⟨v, hv, hrow, -⟩, ht, hB⟩ hlt
    have hlt7 := chain_num hok x hlt
    have hc := hv.cell
    have hnr := ht.not_row (by decide) hrow
    have htl := ht.lt
    clear hst hs hs2 hB2 hb2 hT
    gi_wp2_with (gi_at_builtin; refine wpListIn_append_own _ rfl _ _ 35 rfl w.heap.size 3 i0 (.int .i64 0) 1 8 Try.underlying35 hi hz0 hz1 hz2 rfl (by decide) _ _ _ rfl (hrow.alloc _) ⟨W.heap.size, 0, none⟩ 1 1 [.int .i64 y] rfl rfl (cell_one_new _ _ _) (by simp [Value.oneCell']) (by unfold maxLen; omega) (by omega) (by have := hB.size; simp; omega) ?_; intro v' w5 hown' hgrow _; obtain ⟨g', cap', rfl⟩ := ownsRow_succ hown'; have hkp := hgrow.block _ (by simp; omega) hnr; obtain ⟨hv1, hv2, hr2, hk2, hb2⟩ := hv.appended (by decide) hrow hB.size (by omega) hown' hgrow; have hc1 := hv1.cell; have hf1 := hv1.frozen)
    have hkt := (heap_setCell_other w5 ⟨w.heap.size, 0, none⟩ w1.heap.size (.slice (some ⟨g', 0, none⟩) (pre.length + 1) cap') (by show w1.heap.size ≠ w.heap.size; omega)).trans (hkp.trans (Below.heap_alloc _ _ _ htl))
    exact ⟨hk2, ⟨hb2, hkt⟩, ⟨_, hv2, by simpa [iv] using hr2, trivial⟩, hkt.trans ht, hB.trans hb2⟩
  case done =>
    rintro D ys W hD rfl ⟨⟨v, hv, hrow, -⟩, ht, hB⟩ hK
    have hc := hv.cell
    clear hst hs hs2 hB2 hb2
    gi_wp2
    refine ⟨by simp, .inl ⟨_, _, rfl, run_takeDeferred hK, ?_⟩⟩
    exact ⟨_, results_tmp rfl _ _ _, v, rfl, ownsRow_putObj hrow _ hK rfl, below_put _ hB (by omega)⟩
  case stop =>
    rintro D c pre W _ _ h _
    exact h.elim
end Go.Proofs.Ytbceadnhfihlfaa
