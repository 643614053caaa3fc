/-
  Who ranges over a chain: Depth, Chain, within.
-/
import Derived.Maps.AppendAt
import Derived.Test.YtbceadnhfihlfaaP2
namespace Go.Proofs.Ytbceadnhfihlfaa
open Go.RowKit Go.Shelf
attribute [local go_sem] Oper.semAt_some

set_option maxHeartbeats 1000000 in
theorem up_in (n t : Nat) (x : Int) (w : World) :
    CallsIn Fence.wide n Try.prog 30 #[.pointer (some ⟨t, 0, none⟩), .int .i64 x] w fun e w' => e = .returned (.func (.func 35) #[] #[.pointer (some ⟨w.heap.size + 1, 0, none⟩), .pointer (some ⟨w.heap.size, 0, none⟩)]) ∧
      w' = (w.alloc (.cells #[.pointer (some ⟨t, 0, none⟩)] 24)).alloc (.cells #[.int .i64 x] 3) := by
  refine callsIn_of_wp Try.func30 rfl trivial ?_ rfl
  simp only [Try.ntmps30, List.size_toArray, List.length_cons, List.length_nil, Nat.reduceAdd, Nat.reduceSub, Array.replicate_succ, Array.replicate_zero, List.push_toArray, List.append_toArray, List.nil_append, List.cons_append]
  gi_wp2
  go_ret
  exact ⟨rfl, rfl⟩

/-- The world behind up. -/
def upW (w : World) (t : Nat) (x : Int) : World := (w.alloc (.cells #[.pointer (some ⟨t, 0, none⟩)] 24)).alloc (.cells #[.int .i64 x] 3)
theorem upW_size (w : World) (t : Nat) (x : Int) : (upW w t x).heap.size = w.heap.size + 1 + 1 := by simp [upW]
theorem upW_below (w : World) (t : Nat) (x : Int) : Below w.heap.size w (upW w t x) := (below_alloc _ _).trans ((below_alloc _ _).mono (by simp))
theorem upW_t (w : World) (t : Nat) (x : Int) : RowAt (upW w t x) w.heap.size 24 [.pointer (some ⟨t, 0, none⟩)] := (RowAt.new w _ 24).alloc _
theorem upW_g (w : World) (t : Nat) (x : Int) : (upW w t x).cell? ⟨w.heap.size + 1, 0, none⟩ = some (.int .i64 x) := by
  have := (RowAt.new (w.alloc (.cells #[.pointer (some ⟨t, 0, none⟩)] 24)) #[.int .i64 x] 3)
  rw [World.size_alloc] at this
  exact (RowAt.cell this 0).trans rfl

theorem up_stops (n : Nat) (hn : 1 ≤ n) (B t n₀ : Nat) (G : Gr) (x0 : Int) (w w1 : World) (hT : TreeIs B w t G) (hn₀ : n₀ = w.heap.size) (hb : Below w.heap.size w w1) :
    SeqStopsK Fence.wide n Try.prog 35 #[.pointer (some ⟨w1.heap.size + 1, 0, none⟩), .pointer (some ⟨w1.heap.size, 0, none⟩)] (fun x : Int => #[Value.int .i64 x]) (Kp n₀ w1.heap.size) (fun ys => ys = chain G x0) (fun pre => pre <+: chain G x0) (chain G x0).length (upW w1 t x0) := fun l J Jx W hW _ _ hY h0 => by
  subst hn₀
  have hs := upW_size w1 t x0
  refine up1_in n hn l (w1.heap.size + 1) w1.heap.size B t G w hT x0 J Jx hY W ((hb.trans ((upW_below w1 t x0).mono hb.size)).trans (hW.mono (by have := hb.size; omega))) ?_ ?_ h0
  · rw [hW.cell (p := ⟨w1.heap.size + 1, 0, none⟩) (by show w1.heap.size + 1 < _; omega)]
    exact upW_g w1 t x0
  · exact (upW_t w1 t x0).below hW (by omega)

theorem chain_num {G : Gr} (hG : Ok G) (x : Int) {k : Nat} (h : k < (chain G x).length) : k ≤ 7 := by
  have := chain_len hG x
  omega

set_option maxRecDepth 100000 in
set_option maxHeartbeats 2000000 in
theorem pdepth (B t : Nat) (G : Gr) (x : Int) (w : World) (hT : TreeIs B w t G) :
    Calls Try.prog 20 #[.pointer (some ⟨t, 0, none⟩), .int .i64 x] w fun e w' => e = .returned (.int .i64 (dep G x)) ∧ Below w.heap.size w w' := by
  refine (callsIn_wide (n := 4)).1 ?_
  refine callsIn_of_wp_marks Try.func20 rfl trivial ?_ rfl
  simp only [Try.ntmps20, List.size_toArray, List.length_cons, List.length_nil, Nat.reduceAdd, Nat.reduceSub, Array.replicate_succ, Array.replicate_zero, List.push_toArray, List.append_toArray, List.nil_append, List.cons_append]
  have hok := hT.ok
  gi_wp2_with fail
  refine ⟨trivial, ?_⟩
  gi_at_call 30
  refine (up_in _ _ _ _).mono ?_
  rintro e w' ⟨rfl, rfl⟩
  gi_wp2_with fail
  have hs := Boxed.new w 3 (.int .i64 (-1))
  have hB1 := below_alloc w (.cells #[.int .i64 (-1)] 3)
  obtain ⟨w1, hw1⟩ : ∃ w1, w1 = w.alloc (.cells #[.int .i64 (-1)] 3) := ⟨_, rfl⟩
  have hz1 : w1.heap.size = w.heap.size + 1 := by rw [hw1]; simp
  rw [← hw1] at hs hB1
  have hu := upW_size w1 t x
  have hb2 := upW_below w1 t x
  have hst := up_stops 3 (by omega) B t w.heap.size G x w w1 hT rfl hB1
  have hB2 : Below w.heap.size w (upW w1 t x) := hB1.trans (hb2.mono (by omega))
  have hs2 : Boxed (upW w1 t x) w.heap.size 3 (.int .i64 (-1)) := (hb2.block _ (by omega)).trans hs
  rw [← hw1]
  rw [show (w1.alloc (.cells #[.pointer (some ⟨t, 0, none⟩)] 24)).alloc (.cells #[.int .i64 x] 3) = upW w1 t x from rfl]
  rw [← hz1]
  generalize upW w1 t x = W0 at *
  refine wpIn_rangeFunc_ownF rfl (by omega) (gf := 35) rfl trivial (enters_of Try.func35 (by kernel_rfl) rfl) hst Kp.t (Kp.b (by omega) (by omega)) (Below.refl _ _) (fun _ => rfl)
    (fun pre W => Boxed W w.heap.size 3 (.int .i64 ((pre.length : Int) - 1)) ∧ Below w.heap.size w W)
    (fun _ _ _ => False) ?_ (fun _ _ _ _ _ hs _ _ => hs) ⟨by simpa using hs2, hB2⟩
    (fun y => { tmps := #[.pointer (some ⟨t, 0, none⟩), .int .i64 x, undef, undef, .int .i64 0, .pointer (some ⟨w.heap.size, 0, none⟩), .pointer (some ⟨t, 0, none⟩), .int .i64 x, .func (.func 35) #[] #[.pointer (some ⟨w1.heap.size + 1, 0, none⟩), .pointer (some ⟨w1.heap.size, 0, none⟩)], .int .i64 y, undef, undef, undef], defers := [] }) ?assign ?body ?done ?stop
  · refine OwnFrom.and (Own.from (fun s A B row hs hg hr => ?_) _) (ownFrom_below (Nat.le_refl _) (by omega))
    refine hs.kept hg ?_
    intro e
    obtain ⟨o, ho, hc⟩ := hr _ e.symm
    have : A.heap[w.heap.size]? = _ := hs
    rw [this] at ho
    cases ho
    cases hc
  case assign =>
    intro l x W K hK
    gi_wp2
    simpa using hK
  case body =>
    rintro l pre y W ⟨hc0, hB⟩ hlt
    have hlt7 := chain_num hok x hlt
    have hc := hc0.cell
    have hf := hc0.frozen
    clear hst hs hs2 hB2 hb2
    gi_wp2
    refine ⟨KeepsOthers.setCell _ _ _, ⟨(Below.refl w.heap.size W).setCell (p := ⟨w.heap.size, 0, none⟩) (Nat.le_refl _) _, heap_setCell_other _ _ _ _ (by show w1.heap.size ≠ w.heap.size; omega)⟩, ?_, hB.setCell (p := ⟨w.heap.size, 0, none⟩) (Nat.le_refl _) _⟩
    have := hc0.set (.int .i64 (((pre ++ [y]).length : Int) - 1))
    simpa using this
  case done =>
    rintro D ys W hD rfl ⟨hc0, hB⟩ hK
    have hc := hc0.cell
    clear hst hs hs2 hB2 hb2
    gi_wp2
    refine ⟨by simp, .inl ⟨_, _, rfl, run_takeDeferred hK, ?_⟩⟩
    exact ⟨_, results_tmp rfl _ _ _, rfl, hB.trans (belowK_b (w := w) (Nat.le_refl _) W D _ _ (by omega) hK rfl rfl)⟩
  case stop =>
    rintro D c pre W _ _ h _
    exact h.elim
end Go.Proofs.Ytbceadnhfihlfaa
