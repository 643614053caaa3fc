/-
  within: whether a chain has one.
-/
import Derived.Test.YtbceadnhfihlfaaP4
namespace Go.Proofs.Ytbceadnhfihlfaa
open Go.RowKit Go.Shelf
attribute [local go_sem] Oper.semAt_some

set_option maxRecDepth 100000 in
set_option maxHeartbeats 2000000 in
theorem pwithin (B t : Nat) (G : Gr) (x g : Int) (w : World) (hT : TreeIs B w t G) :
    Calls Try.prog 33 #[.pointer (some ⟨t, 0, none⟩), .int .i64 x, .int .i64 g] w fun e w' => e = .returned (.bool (has G g x)) ∧ Below w.heap.size w w' := by
  refine (callsIn_wide (n := 4)).1 ?_
  refine callsIn_of_wp_marks Try.func33 rfl trivial ?_ rfl
  simp only [Try.ntmps33, List.size_toArray, List.length_cons, List.length_nil, Nat.reduceAdd, Nat.reduceSub, Array.replicate_succ, Array.replicate_zero, List.push_toArray, List.append_toArray, List.nil_append, List.cons_append]
  gi_wp2_with fail
  refine ⟨trivial, ?_⟩
  gi_at_call 30
  refine (up_in _ _ _ _).mono ?_
  rintro e w' ⟨rfl, rfl⟩
  gi_wp2_with fail
  have hs := (Boxed.new w 3 (.int .i64 g)).alloc (.cells #[.bool false] 4)
  have hr := Boxed.new (w.alloc (.cells #[.int .i64 g] 3)) 4 (.bool false)
  rw [World.size_alloc] at hr
  have hB1 : Below w.heap.size w ((w.alloc (.cells #[.int .i64 g] 3)).alloc (.cells #[.bool false] 4)) := (below_alloc _ _).trans ((below_alloc _ _).mono (by simp))
  obtain ⟨w1, hw1⟩ : ∃ w1, w1 = (w.alloc (.cells #[.int .i64 g] 3)).alloc (.cells #[.bool false] 4) := ⟨_, rfl⟩
  have hz : w1.heap.size = w.heap.size + 1 + 1 := by rw [hw1]; simp
  rw [← hw1] at hs hB1 hr
  have hu := upW_size w1 t x
  have hb2 := upW_below w1 t x
  have hst := up_stops 3 (by omega) B t w.heap.size G x w w1 hT rfl hB1
  have hB2 : Below w.heap.size w (upW w1 t x) := hB1.trans (hb2.mono (by omega))
  have hs2 : Boxed (upW w1 t x) w.heap.size 3 (.int .i64 g) := (hb2.block _ (by omega)).trans hs
  have hr2 : Boxed (upW w1 t x) (w.heap.size + 1) 4 (.bool false) := (hb2.block _ (by omega)).trans hr
  rw [← hw1]
  rw [show (w1.alloc (.cells #[.pointer (some ⟨t, 0, none⟩)] 24)).alloc (.cells #[.int .i64 x] 3) = upW w1 t x from rfl]
  rw [← hz]
  generalize upW w1 t x = W0 at *
  refine wpIn_rangeFunc_ownF rfl (by omega) (gf := 35) rfl trivial (enters_of Try.func35 (by kernel_rfl) rfl) hst Kp.t (Kp.b (by omega) (by omega)) (Below.refl _ _) (fun _ => rfl)
    (fun pre W => (Boxed W w.heap.size 3 (.int .i64 g) ∧ Boxed W (w.heap.size + 1) 4 (.bool false)) ∧ g ∉ pre ∧ Below w.heap.size w W)
    (fun c pre W => Boxed W (w.heap.size + 1) 4 (.bool true) ∧ c = .ret ∧ g ∈ pre ∧ Below w.heap.size w W) ?_ ?_ ⟨⟨hs2, hr2⟩, by simp, hB2⟩
    (fun y => { tmps := #[.pointer (some ⟨t, 0, none⟩), .int .i64 x, .int .i64 g, undef, undef, .pointer (some ⟨w.heap.size, 0, none⟩), .pointer (some ⟨w.heap.size + 1, 0, none⟩), .int .i64 y, .pointer (some ⟨t, 0, none⟩), .int .i64 x, .func (.func 35) #[] #[.pointer (some ⟨w1.heap.size + 1, 0, none⟩), .pointer (some ⟨w1.heap.size, 0, none⟩)], .int .i64 y, undef, undef, undef], defers := [] }) ?assign ?body ?done ?stop
  · exact OwnFrom.and (Own.from (fun s A B row hs hg hr => ⟨boxed_own (fun _ : List Int => _) s A B row hs.1 hg hr, boxed_own (fun _ : List Int => _) s A B row hs.2 hg hr⟩) _) (OwnFrom.and (fun s A B row hs _ _ => hs) (ownFrom_below (Nat.le_refl _) (by omega)))
  · exact fun c => OwnFrom.and (Own.from (boxed_own _) _) (OwnFrom.and (fun s A B row hs _ _ => hs) (OwnFrom.and (fun s A B row hs _ _ => hs) (ownFrom_below (Nat.le_refl _) (by omega))))
  case assign =>
    intro l x W K hK
    clear hz hw1 hu
    gi_wp2
    exact hK
  case body =>
    rintro l pre y W ⟨⟨hc0, hc1⟩, hne, hB⟩ hlt
    have k0 := hc0.cell
    have k1 := hc1.cell
    have f1 := hc1.frozen
    clear hst hs hs2 hB2 hb2 hT hr hr2
    by_cases hq : y = g
    · subst hq
      have hd : (y == y) = true := by simp
      gi_wp2
      exact ⟨KeepsOthers.setCell _ _ _, hc1.set _, rfl, by simp, hB.setCell (p := ⟨w.heap.size + 1, 0, none⟩) (by show w.heap.size ≤ w.heap.size + 1; omega) _⟩
    · have hd : (y == g) = false := by simpa using hq
      have HQ : Hid (g ∉ pre ++ [y]) := by
        intro h
        rcases List.mem_append.1 h with h | h
        · exact hne h
        · simp at h; exact hq h.symm
      clear hq hne
      gi_wp2
      exact ⟨KeepsOthers.refl _, ⟨Below.refl _ _, rfl⟩, ⟨hc0, hc1⟩, HQ.out, hB⟩
  case done =>
    rintro D ys W hD rfl ⟨⟨hc0, hc1⟩, hne, hB⟩ hK
    have k1 := hc1.cell
    have f1 := hc1.frozen
    have HQ : Hid (has G g x = false) := by show _ = _; simpa [has] using hne
    clear hst hs hs2 hB2 hb2 hr hr2 hne
    gi_wp2
    have hK' := (KeepsOthers.setCell W ⟨w.heap.size + 1, 0, none⟩ (.bool false)).same D _ hK rfl
    refine ⟨by simp, .inl ⟨_, _, rfl, run_takeDeferred hK', ?_⟩⟩
    have hc5 := cell_kept (World.cell?_setCell_same' W ⟨w.heap.size + 1, 0, none⟩ (.bool false) (by rw [k1]; rfl)) (grownBy_putObj' _ D (.deferred none)) (fun r e => by cases e; exact ⟨_, hK', rfl⟩)
    refine ⟨.bool false, ?_, by rw [HQ.out], below_put _ (hB.setCell (p := ⟨w.heap.size + 1, 0, none⟩) (by show w.heap.size ≤ w.heap.size + 1; omega) _) (by omega)⟩
    simp [results, Try.f33, go_sem, hc5]
  case stop =>
    rintro D c pre W hD hpre ⟨hc1, rfl, hin, hB⟩ hK
    have HQ : Hid (has G g x = true) := by
      show _ = _
      simp only [has, decide_eq_true_eq]
      exact hpre.subset hin
    clear hst hs hs2 hB2 hb2 hr hr2 hin hpre
    gi_wp2
    refine ⟨by simp, .inl ⟨_, _, rfl, run_takeDeferred hK, ?_⟩⟩
    have hc5 := cell_kept hc1.cell (grownBy_putObj' _ D (.deferred none)) (fun r e => by cases e; exact ⟨_, hK, rfl⟩)
    refine ⟨.bool true, ?_, by rw [HQ.out], below_put _ hB (by omega)⟩
    simp [results, Try.f33, go_sem, hc5]
end Go.Proofs.Ytbceadnhfihlfaa
