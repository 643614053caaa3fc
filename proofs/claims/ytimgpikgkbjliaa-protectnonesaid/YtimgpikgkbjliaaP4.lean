/-
  Ints in memory; held: whether one from a place on up to ahead of the target uses no more than its E.
-/
import Derived.Test.YtimgpikgkbjliaaRound
import Derived.Test.YtimgpikgkbjliaaP3
namespace Go.Proofs.Ytimgpikgkbjliaa
open Go.RowKit Go.Shelf
attribute [local go_sem] Oper.semAt_some

/-- A slice of ints, as it lies in memory. -/
structure Ints (w : World) (a : Option Addr) (N : List Int) : Prop where
  at' : ∀ j, j < N.length → ∃ b off, a = some ⟨b, off, none⟩ ∧ w.cell? ⟨b, off + j, none⟩ = some (.int .i64 (N.getD j 0))
theorem Ints.later {w w' : World} {a : Option Addr} {N : List Int} (h : Ints w a N) (hb : Below w.heap.size w w') : Ints w' a N := by
  refine ⟨fun j hj => ?_⟩
  obtain ⟨b, off, rfl, h1⟩ := h.at' j hj
  exact ⟨b, off, rfl, cell_later hb h1⟩
theorem keeps_drawn {W W' : World} (h : KeepsOthers W W') (n : Nat) : KeepsOthers W (W'.drewN n) := ⟨h.size, h.same⟩
def at0 (N : List Int) (j : Nat) : Int := N.getD j 0

set_option maxRecDepth 100000 in
set_option maxHeartbeats 4000000 in
theorem pheld (a : Option Addr) (cap : Nat) (G : List Nd) (ae : Option Addr) (ce : Nat) (N : List Int) (t : Int) (x : Nat) (w : World) (hT : Nds w a cap G) (hE : Ints w ae N) (hN : N.length = G.length) (hok : Ok G) (hx : x < G.length) :
    Calls Try.prog 33 #[.slice a G.length cap, .slice ae N.length ce, .int .i64 t, .int .i64 x] w fun e w' => e = .returned (.bool (hd G (at0 N) t x)) ∧ Below w.heap.size w w' := by
  have HN : Hid (N.length = G.length) := hN
  clear hN
  refine (callsIn_wide (n := 4)).1 ?_
  refine callsIn_of_wp_marks Try.func33 rfl trivial ?_ rfl
  simp only [Try.ntmps33, List.size_toArray, List.length_cons, List.length_nil, Nat.reduceAdd, Nat.reduceSub, Array.replicate_succ, Array.replicate_zero, List.push_toArray, List.append_toArray, List.nil_append, List.cons_append]
  gi_wp2_with fail
  refine ⟨trivial, ?_⟩
  gi_at_call 34
  refine (up_in _ _ _ _ _ _).mono ?_
  rintro e w' ⟨rfl, rfl⟩
  gi_wp2_with fail
  have hB1 : Below w.heap.size w ((((w.alloc (.cells #[.slice a G.length cap] 22)).alloc (.cells #[.slice ae N.length ce] 25)).alloc (.cells #[.int .i64 t] 3)).alloc (.cells #[.bool false] 4)) :=
    bel_trans (bel_trans (bel_trans (below_alloc _ _) (below_alloc _ _)) (below_alloc _ _)) (below_alloc _ _)
  have q4 := (((Boxed.new w 22 (.slice a G.length cap)).alloc (.cells #[.slice ae N.length ce] 25)).alloc (.cells #[.int .i64 t] 3)).alloc (.cells #[.bool false] 4)
  have q5 := ((Boxed.new (w.alloc (.cells #[.slice a G.length cap] 22)) 25 (.slice ae N.length ce)).alloc (.cells #[.int .i64 t] 3)).alloc (.cells #[.bool false] 4)
  have q6 := (Boxed.new ((w.alloc (.cells #[.slice a G.length cap] 22)).alloc (.cells #[.slice ae N.length ce] 25)) 3 (.int .i64 t)).alloc (.cells #[.bool false] 4)
  have q8 := Boxed.new (((w.alloc (.cells #[.slice a G.length cap] 22)).alloc (.cells #[.slice ae N.length ce] 25)).alloc (.cells #[.int .i64 t] 3)) 4 (.bool false)
  simp only [World.size_alloc] at q5 q6 q8
  obtain ⟨w1, hw1⟩ : ∃ w1, w1 = (((w.alloc (.cells #[.slice a G.length cap] 22)).alloc (.cells #[.slice ae N.length ce] 25)).alloc (.cells #[.int .i64 t] 3)).alloc (.cells #[.bool false] 4) := ⟨_, rfl⟩
  have hz : w1.heap.size = w.heap.size + 1 + 1 + 1 + 1 := by rw [hw1]; simp
  rw [← hw1] at q4 q5 q6 q8 hB1
  have hu := upW_size w1 a G.length cap x
  have hb2 := upW_below w1 a G.length cap x
  have hst := up_stops 3 (by omega) w.heap.size a cap G x hx w w1 hT hok rfl hB1
  have hB2 : Below w.heap.size w (upW w1 a G.length cap x) := hB1.trans (hb2.mono (by omega))
  have p4 : Boxed (upW w1 a G.length cap x) w.heap.size 22 (.slice a G.length cap) := (hb2.block _ (by omega)).trans q4
  have p5 : Boxed (upW w1 a G.length cap x) (w.heap.size + 1) 25 (.slice ae N.length ce) := (hb2.block _ (by omega)).trans q5
  have p6 : Boxed (upW w1 a G.length cap x) (w.heap.size + 1 + 1) 3 (.int .i64 t) := (hb2.block _ (by omega)).trans q6
  have p8 : Boxed (upW w1 a G.length cap x) (w.heap.size + 1 + 1 + 1) 4 (.bool false) := (hb2.block _ (by omega)).trans q8
  rw [← hw1]
  rw [show (w1.alloc (.cells #[.slice a G.length cap] 22)).alloc (.cells #[.int .i64 x] 3) = upW w1 a G.length cap x from rfl]
  rw [← hz]
  clear q4 q5 q6 q8 hw1
  have HT : Hid (∀ (W : World) (y : Fin G.length), Below w.heap.size w W → ∃ (b off be offe : Nat), a = some ⟨b, off, none⟩ ∧ ae = some ⟨be, offe, none⟩ ∧ W.cell? ⟨b, off + y.val * 3 + 1, none⟩ = some (.int .i64 (use G y.val)) ∧ W.cell? ⟨be, offe + y.val, none⟩ = some (.int .i64 (at0 N y.val))) := by
    intro W y hW
    obtain ⟨b, off, h1, -, h2, -⟩ := (hT.later hW).get y.isLt
    obtain ⟨be, offe, h3, h4⟩ := (hE.later hW).at' y.val (by rw [HN.out]; exact y.isLt)
    exact ⟨b, off, be, offe, h1, h3, h2, h4⟩
  generalize upW w1 a G.length cap x = W0 at *
  refine wpIn_rangeFunc_ownF rfl (by omega) (gf := 37) rfl trivial (enters_of Try.func37 (by kernel_rfl) rfl) hst Kp.t (Kp.b (by omega) (by omega)) (Below.refl _ _) (fun _ => rfl)
    (fun pre W => ((Boxed W w.heap.size 22 (.slice a G.length cap) ∧ Boxed W (w.heap.size + 1) 25 (.slice ae N.length ce)) ∧ Boxed W (w.heap.size + 1 + 1) 3 (.int .i64 t) ∧ Boxed W (w.heap.size + 1 + 1 + 1) 4 (.bool false)) ∧ noneYet G (at0 N) t (pre.map pv) ∧ Below w.heap.size w W)
    (fun c pre W => (∃ b, Boxed W (w.heap.size + 1 + 1 + 1) 4 (.bool b) ∧ ((c = .ret ∧ b = true ∧ ∀ r, hdL G (at0 N) t (pre.map pv ++ r) = true) ∨ (c = .exit 0 ∧ b = false ∧ ∀ r, hdL G (at0 N) t (pre.map pv ++ r) = false))) ∧ Below w.heap.size w W) ?_ ?_ ⟨⟨⟨p4, p5⟩, p6, p8⟩, none_nil _ _ _, hB2⟩
    (fun y => { tmps := #[.slice a G.length cap, .slice ae N.length ce, .int .i64 t, .int .i64 x, .pointer (some ⟨w.heap.size, 0, none⟩), .pointer (some ⟨w.heap.size + 1, 0, none⟩), .pointer (some ⟨w.heap.size + 1 + 1, 0, none⟩), undef, .pointer (some ⟨w.heap.size + 1 + 1 + 1, 0, none⟩), .int .i64 (pv y), .slice a G.length cap, .int .i64 x, .func (.func 37) #[] #[.pointer (some ⟨w1.heap.size + 1, 0, none⟩), .pointer (some ⟨w1.heap.size, 0, none⟩)], .int .i64 (pv y), undef, undef, undef, undef, undef, undef, undef, undef, undef, undef, undef, undef, undef], defers := [] }) ?assign ?body ?done ?stop
  · exact OwnFrom.and (Own.from (fun s A B row hs hg hr => ⟨⟨boxed_own (fun _ : List (Fin G.length) => _) s A B row hs.1.1 hg hr, boxed_own (fun _ : List (Fin G.length) => _) s A B row hs.1.2 hg hr⟩, boxed_own (fun _ : List (Fin G.length) => _) s A B row hs.2.1 hg hr, boxed_own (fun _ : List (Fin G.length) => _) s A B row hs.2.2 hg hr⟩) _) (OwnFrom.and (fun s A B row hs _ _ => hs) (ownFrom_below (Nat.le_refl _) (by omega)))
  · exact fun c => OwnFrom.and (Own.from (fun s A B row hs hg hr => by
      obtain ⟨b, h1, h2⟩ := hs
      exact ⟨b, boxed_own (fun _ : List (Fin G.length) => _) s A B row h1 hg hr, h2⟩) _) (ownFrom_below (Nat.le_refl _) (by omega))
  case assign =>
    intro l x W K hK
    clear hz hu
    gi_wp2
    exact hK
  case body =>
    rintro l pre ⟨i, hi⟩ W ⟨⟨⟨hc4, hc5⟩, hc6, hc8⟩, hne, hB⟩ hlt
    have k4 := hc4.cell
    have k5 := hc5.cell
    have k6 := hc6.cell
    have k8 := hc8.cell
    have f8 := hc8.frozen
    have hmap : ∀ r, (pre ++ [(⟨i, hi⟩ : Fin G.length)]).map pv ++ r = pre.map pv ++ (i : Int) :: r := by
      intro r
      rw [List.map_append, List.append_assoc]
      rfl
    have HJ : Hid (¬ (i : Int) = t → ¬ use G i ≤ at0 N i → noneYet G (at0 N) t ((pre ++ [(⟨i, hi⟩ : Fin G.length)]).map pv)) := by
      intro h1 h2
      rw [List.map_append]
      exact none_add hne h1 h2
    clear hst p4 p5 p6 p8 hB2 hb2 hT hE hlt
    rw [show pv (⟨i, hi⟩ : Fin G.length) = (i : Int) from rfl]
    by_cases hq : (i : Int) = t
    · have HM : Hid (∀ r, hdL G (at0 N) t ((pre ++ [(⟨i, hi⟩ : Fin G.length)]).map pv ++ r) = false) := by
        intro r
        rw [hmap, hq]
        exact hdL_target hne
      have hd : ((i : Int) == t) = true := by simp [hq]
      clear hq hne hmap HJ
      gi_wp2
      exact ⟨KeepsOthers.refl _, ⟨_, hc8, .inr ⟨rfl, rfl, HM.out⟩⟩, hB⟩
    · have hd : ((i : Int) == t) = false := by simpa using hq
      obtain ⟨b, off, be, offe, rfl, rfl, c1, c2⟩ := HT.out W ⟨i, hi⟩ hB
      have hNl := HN.out
      simp only at c1 c2
      by_cases hu : use G i ≤ at0 N i
      · have hd2 : decide (use G i ≤ at0 N i) = true := by simpa using hu
        have HM : Hid (∀ r, hdL G (at0 N) t ((pre ++ [(⟨i, hi⟩ : Fin G.length)]).map pv ++ r) = true) := by
          intro r
          rw [hmap]
          exact hdL_yes hne hq hu
        have hi2 : i < N.length := by omega
        clear hq hne hu hmap HJ hNl
        gi_wp2
        refine wpIn_region_round (by kernel_rfl) (by kernel_rfl) (by kernel_rfl) ?_
        repeat (gi_big_quiet_step (fail))
        refine wpQuietIn_nil ?_
        rintro w' ⟨nq, rfl⟩
        gi_wp2
        exact ⟨(keeps_drawn (KeepsOthers.refl W) nq).trans (KeepsOthers.setCell _ _ _), ⟨_, (show Boxed (W.drewN nq) _ _ _ from hc8).set _, .inl ⟨rfl, rfl, HM.out⟩⟩, (below_drawn hB nq).setCell (p := ⟨w.heap.size + 1 + 1 + 1, 0, none⟩) (by show w.heap.size ≤ w.heap.size + 1 + 1 + 1; omega) _⟩
      · have hd2 : decide (use G i ≤ at0 N i) = false := by simpa using hu
        have HM : Hid (noneYet G (at0 N) t ((pre ++ [(⟨i, hi⟩ : Fin G.length)]).map pv)) := HJ.out hq hu
        have hi2 : i < N.length := by omega
        clear hq hne hu hmap HJ hNl
        gi_wp2
        refine wpIn_region_round (by kernel_rfl) (by kernel_rfl) (by kernel_rfl) ?_
        repeat (gi_big_quiet_step (fail))
        refine wpQuietIn_nil ?_
        rintro w' ⟨nq, rfl⟩
        gi_wp2
        exact ⟨keeps_drawn (KeepsOthers.refl W) nq, ⟨below_drawn (Below.refl _ W) nq, rfl⟩, ⟨⟨hc4, hc5⟩, hc6, hc8⟩, HM.out, below_drawn hB nq⟩
  case done =>
    rintro D ys W hD hys ⟨⟨-, -, hc8⟩, hne, hB⟩ hK
    have k8 := hc8.cell
    have f8 := hc8.frozen
    have HQ : Hid (hd G (at0 N) t x = false) := by
      show _ = _
      rw [hd_list, ← hys]
      exact hdL_none hne
    clear hst hB2 hb2 hne hys p4 p5 p6 p8 HT hT hE
    gi_wp2
    have hK' := (KeepsOthers.setCell W ⟨w.heap.size + 1 + 1 + 1, 0, none⟩ (.bool false)).same D _ hK rfl
    refine ⟨by simp, .inl ⟨_, _, rfl, run_takeDeferred hK', ?_⟩⟩
    have hc5 := cell_kept (World.cell?_setCell_same' W ⟨w.heap.size + 1 + 1 + 1, 0, none⟩ (.bool false) (by rw [k8]; rfl)) (grownBy_putObj' _ D (.deferred none)) (fun r e => by cases e; exact ⟨_, hK', rfl⟩)
    refine ⟨.bool false, ?_, by rw [HQ.out], below_put _ (hB.setCell (p := ⟨w.heap.size + 1 + 1 + 1, 0, none⟩) (by show w.heap.size ≤ w.heap.size + 1 + 1 + 1; omega) _) (by omega)⟩
    simp [results, Try.f33, go_sem, hc5]
  case stop =>
    rintro D c pre W hD hpre ⟨⟨b, hc8, hway⟩, hB⟩ hK
    have k8 := hc8.cell
    have f8 := hc8.frozen
    have HQ : Hid (hd G (at0 N) t x = b) := by
      show _ = _
      obtain ⟨r, hr⟩ := hpre
      rw [hd_list, ← hr]
      rcases hway with ⟨-, rfl, h⟩ | ⟨-, rfl, h⟩
      · exact h r
      · exact h r
    have hcb : (c = .ret ∧ b = true) ∨ (c = .exit 0 ∧ b = false) := by
      rcases hway with ⟨h1, h2, -⟩ | ⟨h1, h2, -⟩
      · exact .inl ⟨h1, h2⟩
      · exact .inr ⟨h1, h2⟩
    clear hst hB2 hb2 hpre hway p4 p5 p6 p8 HT hT hE
    rcases hcb with ⟨rfl, rfl⟩ | ⟨rfl, rfl⟩
    · gi_wp2
      refine ⟨by simp, .inl ⟨_, _, rfl, run_takeDeferred hK, ?_⟩⟩
      have hc5 := cell_kept hc8.cell (grownBy_putObj' _ D (.deferred none)) (fun r e => by cases e; exact ⟨_, hK, rfl⟩)
      refine ⟨.bool true, ?_, by rw [HQ.out], below_put _ hB (by omega)⟩
      simp [results, Try.f33, go_sem, hc5]
    · gi_wp2
      have hK' := (KeepsOthers.setCell W ⟨w.heap.size + 1 + 1 + 1, 0, none⟩ (.bool false)).same D _ hK rfl
      refine ⟨by simp, .inl ⟨_, _, rfl, run_takeDeferred hK', ?_⟩⟩
      have hc5 := cell_kept (World.cell?_setCell_same' W ⟨w.heap.size + 1 + 1 + 1, 0, none⟩ (.bool false) (by rw [k8]; rfl)) (grownBy_putObj' _ D (.deferred none)) (fun r e => by cases e; exact ⟨_, hK', rfl⟩)
      refine ⟨.bool false, ?_, by rw [HQ.out], below_put _ (hB.setCell (p := ⟨w.heap.size + 1 + 1 + 1, 0, none⟩) (by show w.heap.size ≤ w.heap.size + 1 + 1 + 1; omega) _) (by omega)⟩
      simp [results, Try.f33, go_sem, hc5]
end Go.Proofs.Ytimgpikgkbjliaa
