/-
  Regions by value: the contracts of the document's Valid, of both Key and both part.
-/
import Derived.Test.YtagobeoabkbhaaaP1
namespace Go.Proofs.Ytagobeoabkbhaaa
open Go.RowKit

set_option maxHeartbeats 4000000 in
theorem rvalid (x : Rg) (w : World) : Calls Try.prog 18 #[rv x] w fun e w' => e = .returned (.bool (vd x)) ∧ Below w.heap.size w w' := by
  obtain ⟨f, t, k, fi, ix, wr⟩ := x
  show Calls Try.prog 18 #[.agg #[.int .i64 f, .int .i64 t, .int .i64 k, .int .i64 fi, .int .i64 ix, .bool wr]] w fun e w' => e = .returned (.bool (vd ⟨f, t, k, fi, ix, wr⟩)) ∧ Below w.heap.size w w'
  have Hno : ∀ h : ¬ Vd ⟨f, t, k, fi, ix, wr⟩, vd ⟨f, t, k, fi, ix, wr⟩ = false := vd_no
  have Hyes : ∀ h : Vd ⟨f, t, k, fi, ix, wr⟩, vd ⟨f, t, k, fi, ix, wr⟩ = true := (vd_iff _).2
  simp only [Vd] at Hno Hyes
  obtain ⟨V, hV⟩ : ∃ V, V = vd ⟨f, t, k, fi, ix, wr⟩ := ⟨_, rfl⟩
  rw [← hV] at Hno Hyes ⊢
  clear hV
  by_cases h1 : f < 0
  · have d1 : decide (f < 0) = true := by simp; omega
    obtain rfl := Hno (by omega)
    clear Hyes Hno
    go_enter Try.func18, Try.ntmps18
    go_wp2
    go_ret
    exact ⟨rfl, below_alloc _ _⟩
  have d1 : decide (f < 0) = false := by simp; omega
  by_cases h2 : t ≤ f
  · have d2 : decide (t ≤ f) = true := by simp; omega
    obtain rfl := Hno (by omega)
    clear Hyes Hno
    go_enter Try.func18, Try.ntmps18
    go_wp2
    go_ret
    exact ⟨rfl, below_alloc _ _⟩
  have d2 : decide (t ≤ f) = false := by simp; omega
  by_cases h3 : 65536 < t
  · have d3 : decide (65536 < t) = true := by simp; omega
    obtain rfl := Hno (by omega)
    clear Hyes Hno
    go_enter Try.func18, Try.ntmps18
    go_wp2
    go_ret
    exact ⟨rfl, below_alloc _ _⟩
  have d3 : decide (65536 < t) = false := by simp; omega
  by_cases h4 : k = 1
  · subst h4
    by_cases h5 : fi = 0
    · have d5 : (fi == 0) = true := by simp; omega
      have HQ : Hid (V = (ix == 0)) := by
        show _ = _
        by_cases h6 : ix = 0
        · rw [Hyes (by omega)]; simp [h6]
        · rw [Hno (by omega)]; simp [h6]
      clear Hyes Hno
      go_enter Try.func18, Try.ntmps18
      go_wp2
      go_ret
      exact ⟨by rw [HQ.out]; rfl, below_alloc _ _⟩
    · have d5 : (fi == 0) = false := by simp; omega
      obtain rfl := Hno (by omega)
      clear Hyes Hno
      go_enter Try.func18, Try.ntmps18
      go_wp2
      go_ret
      exact ⟨rfl, below_alloc _ _⟩
  have d4 : (k == 1) = false := by simp; omega
  by_cases h5 : k = 2
  · subst h5
    by_cases h6 : fi < 0
    · have d6 : decide (0 ≤ fi) = false := by simp; omega
      obtain rfl := Hno (by omega)
      clear Hyes Hno
      go_enter Try.func18, Try.ntmps18
      go_wp2
      go_ret
      exact ⟨rfl, below_alloc _ _⟩
    have d6 : decide (0 ≤ fi) = true := by simp; omega
    by_cases h7 : 1048576 < fi
    · have d7 : decide (fi ≤ 1048576) = false := by simp; omega
      obtain rfl := Hno (by omega)
      clear Hyes Hno
      go_enter Try.func18, Try.ntmps18
      go_wp2
      go_ret
      exact ⟨rfl, below_alloc _ _⟩
    have d7 : decide (fi ≤ 1048576) = true := by simp; omega
    by_cases h8 : ix < 0
    · have d8 : decide (0 ≤ ix) = false := by simp; omega
      obtain rfl := Hno (by omega)
      clear Hyes Hno
      go_enter Try.func18, Try.ntmps18
      go_wp2
      go_ret
      exact ⟨rfl, below_alloc _ _⟩
    have d8 : decide (0 ≤ ix) = true := by simp; omega
    by_cases h9 : 2097152 < ix
    · have d9 : decide (ix ≤ 2097152) = false := by simp; omega
      obtain rfl := Hno (by omega)
      clear Hyes Hno
      go_enter Try.func18, Try.ntmps18
      go_wp2
      go_ret
      exact ⟨rfl, below_alloc _ _⟩
    have d9 : decide (ix ≤ 2097152) = true := by simp; omega
    have ew : IntKind.i64.wrap (ix + t) = ix + t := by rw [IntKind.wrap_i64]; omega
    have ew2 : IntKind.i64.wrap (ix + t - f) = ix + t - f := by rw [IntKind.wrap_i64]; omega
    have HQ : Hid (V = decide (ix + t - f ≤ 2097152)) := by
      show _ = _
      by_cases h9 : ix + t - f ≤ 2097152
      · rw [Hyes (by omega)]; simp [h9]
      · rw [Hno (by omega)]; simp [h9]
    clear Hyes Hno
    go_enter Try.func18, Try.ntmps18
    go_wp2
    go_ret
    exact ⟨by rw [HQ.out]; rfl, below_alloc _ _⟩
  · have d5 : (k == 2) = false := by simp; omega
    obtain rfl := Hno (by omega)
    clear Hyes Hno
    go_enter Try.func18, Try.ntmps18
    go_wp2
    go_ret
    exact ⟨rfl, below_alloc _ _⟩

theorem under37 : Try.prog.underlying 37 = some (.struct (Try.prog.fieldsOf 37)) := by kernel_rfl
theorem under25 : Try.prog.underlying 25 = some (.struct (Try.prog.fieldsOf 25)) := by kernel_rfl

/-- What is returned, where the result is a struct in a cell of its own. -/
theorem res37 {fn : Func} {p : Tmp} (h : fn.results = #[.cell p 37]) (tmps : Array Value) (w : World) (g : Nat) (v0 v1 : Value)
    (hp : tmps.getD p undef = .pointer (some ⟨g, 0, none⟩)) (hg : RowAt w g 37 [v0, v1]) : (results fn tmps).run Try.prog w = .ok (.agg #[v0, v1]) w :=
  results_cell_row h tmps w g 37 #[v0, v1] (0, 0) _ hp hg under37 rfl (by kernel_rfl)
theorem res25 {fn : Func} {p : Tmp} (h : fn.results = #[.cell p 25]) (tmps : Array Value) (w : World) (g : Nat) (x : Rg)
    (hp : tmps.getD p undef = .pointer (some ⟨g, 0, none⟩)) (hg : RowAt w g 25 (rc x)) : (results fn tmps).run Try.prog w = .ok (rv x) w :=
  results_cell_row h tmps w g 25 #[.int .i64 x.f, .int .i64 x.t, .int .i64 x.k, .int .i64 x.fi, .int .i64 x.ix, .bool x.wr] (0, 0) _ hp hg under25 rfl (by kernel_rfl)
theorem two_allocs (w : World) (o : Obj) (v0 v1 : Value) : RowAt ((w.alloc o).alloc (.cells #[v0, v1] 37)) (w.heap.size + 1) 37 [v0, v1] ∧ Below w.heap.size w ((w.alloc o).alloc (.cells #[v0, v1] 37)) := by
  refine ⟨?_, bel_trans (below_alloc w o) (below_alloc _ _)⟩
  have := RowAt.new (w.alloc o) #[v0, v1] 37
  simpa using this

set_option maxHeartbeats 4000000 in
theorem pkey (x : Rg) (p : Int) (w : World) : Calls Try.prog 22 #[rv x, .int .i64 p] w fun e w' => e = .returned (.agg #[.int .i64 (kF x), .int .i64 (kI x p)]) ∧ Below w.heap.size w w' := by
  obtain ⟨f, t, k, fi, ix, wr⟩ := x
  show Calls Try.prog 22 #[.agg #[.int .i64 f, .int .i64 t, .int .i64 k, .int .i64 fi, .int .i64 ix, .bool wr], .int .i64 p] w _
  by_cases h : k = 2
  · subst h
    have e1 : kF ⟨f, t, 2, fi, ix, wr⟩ = fi := rfl
    have e2 : kI ⟨f, t, 2, fi, ix, wr⟩ p = wrap64 (wrap64 (ix + p) - f) := rfl
    rw [e1, e2]
    clear e1 e2
    go_enter Try.func22, Try.ntmps22
    go_wp2
    have hh := two_allocs w (.cells #[.int .i64 f, .int .i64 t, .int .i64 2, .int .i64 fi, .int .i64 ix, .bool wr] 25) (.int .i64 fi) (.int .i64 (wrap64 (wrap64 (ix + p) - f)))
    refine bodyPost_ret (res37 rfl _ _ _ _ _ rfl hh.1) rfl ?_
    exact ⟨rfl, hh.2⟩
  · have e1 : kF ⟨f, t, k, fi, ix, wr⟩ = -1 := if_neg h
    have e2 : kI ⟨f, t, k, fi, ix, wr⟩ p = p := if_neg h
    rw [e1, e2]
    clear e1 e2
    have d : (k != 2) = true := by simp; omega
    go_enter Try.func22, Try.ntmps22
    go_wp2
    have hh := two_allocs w (.cells #[.int .i64 f, .int .i64 t, .int .i64 k, .int .i64 fi, .int .i64 ix, .bool wr] 25) (.int .i64 (-1)) (.int .i64 p)
    refine bodyPost_ret (res37 rfl _ _ _ _ _ rfl hh.1) rfl ?_
    exact ⟨rfl, hh.2⟩

set_option maxHeartbeats 4000000 in
theorem rkey (x : Rg) (p : Int) (w : World) : Calls Try.prog 23 #[rv x, .int .i64 p] w fun e w' => e = .returned (.agg #[.int .i64 (kF x), .int .i64 (kI x p)]) ∧ Below w.heap.size w w' := by
  obtain ⟨f, t, k, fi, ix, wr⟩ := x
  show Calls Try.prog 23 #[.agg #[.int .i64 f, .int .i64 t, .int .i64 k, .int .i64 fi, .int .i64 ix, .bool wr], .int .i64 p] w _
  by_cases h : k = 2
  · subst h
    have e1 : kF ⟨f, t, 2, fi, ix, wr⟩ = fi := rfl
    have e2 : kI ⟨f, t, 2, fi, ix, wr⟩ p = wrap64 (wrap64 (ix + p) - f) := rfl
    rw [e1, e2]
    clear e1 e2
    go_enter Try.func23, Try.ntmps23
    go_wp2
    have hh := two_allocs w (.cells #[.int .i64 f, .int .i64 t, .int .i64 2, .int .i64 fi, .int .i64 ix, .bool wr] 25) (.int .i64 fi) (.int .i64 (wrap64 (wrap64 (ix + p) - f)))
    refine bodyPost_ret (res37 rfl _ _ _ _ _ rfl hh.1) rfl ?_
    exact ⟨rfl, hh.2⟩
  · have e1 : kF ⟨f, t, k, fi, ix, wr⟩ = -1 := if_neg h
    have e2 : kI ⟨f, t, k, fi, ix, wr⟩ p = p := if_neg h
    rw [e1, e2]
    clear e1 e2
    have d : (k == 2) = false := by simp; omega
    go_enter Try.func23, Try.ntmps23
    go_wp2
    have hh := two_allocs w (.cells #[.int .i64 f, .int .i64 t, .int .i64 k, .int .i64 fi, .int .i64 ix, .bool wr] 25) (.int .i64 (-1)) (.int .i64 p)
    refine bodyPost_ret (res37 rfl _ _ _ _ _ rfl hh.1) rfl ?_
    exact ⟨rfl, hh.2⟩

theorem two_boxes (w : World) (o : Obj) (y : Rg) : RowAt ((w.alloc o).alloc (.cells #[.int .i64 y.f, .int .i64 y.t, .int .i64 y.k, .int .i64 y.fi, .int .i64 y.ix, .bool y.wr] 25)) (w.heap.size + 1) 25 (rc y) ∧ Below w.heap.size w ((w.alloc o).alloc (.cells #[.int .i64 y.f, .int .i64 y.t, .int .i64 y.k, .int .i64 y.fi, .int .i64 y.ix, .bool y.wr] 25)) := by
  refine ⟨?_, bel_trans (below_alloc w o) (below_alloc _ _)⟩
  have := RowAt.new (w.alloc o) #[.int .i64 y.f, .int .i64 y.t, .int .i64 y.k, .int .i64 y.fi, .int .i64 y.ix, .bool y.wr] 25
  unfold rc
  simpa using this
theorem plain3 : Try.prog.plainKey 3 = true := by kernel_rfl
theorem field37 (v0 v1 : Value) (w : World) : (Instr.field 37 (.agg #[v0, v1]) 1).run Try.prog w = .ok v1 w := by
  have p := run_part_plain (P := Try.prog) w plain3 (xs := #[v0, v1]) (off := 1) (v := v1) rfl
  simp [Instr.field, run_underlying Try.underlying37, asAgg, p]
/-- A region stored. -/
theorem setSix {B : Nat} {w w4 : World} {b : Nat} {z : Rg} (y : Rg) (hz : RowAt w4 b 25 (rc z)) (hb : Below B w w4) (hB : B ≤ b) :
    ∃ w5, w5 = ((((((w4.setCell ⟨b, 0, none⟩ (.int .i64 y.f)).setCell ⟨b, 1, none⟩ (.int .i64 y.t)).setCell ⟨b, 2, none⟩ (.int .i64 y.k)).setCell ⟨b, 3, none⟩ (.int .i64 y.fi)).setCell ⟨b, 4, none⟩ (.int .i64 y.ix)).setCell ⟨b, 5, none⟩ (.bool y.wr)) ∧ RowAt w5 b 25 (rc y) ∧ Below B w w5 ∧ But b w4 w5 :=
  ⟨_, rfl, (((((hz.set 0 _).set 1 _).set 2 _).set 3 _).set 4 _).set 5 _, (((((hb.setCell hB _).setCell hB _).setCell hB _).setCell hB _).setCell hB _).setCell hB _,
    (((((But.setCell b 0 w4 _).trans (But.setCell b 1 _ _)).trans (But.setCell b 2 _ _)).trans (But.setCell b 3 _ _)).trans (But.setCell b 4 _ _)).trans (But.setCell b 5 _ _)⟩

set_option maxHeartbeats 4000000 in
theorem rpart (x : Rg) (a b : Int) (w : World) : Calls Try.prog 29 #[rv x, .int .i64 a, .int .i64 b] w fun e w' => e = .returned (rv (part x a b)) ∧ Below w.heap.size w w' := by
  obtain ⟨f, t, k, fi, ix, wr⟩ := x
  show Calls Try.prog 29 #[.agg #[.int .i64 f, .int .i64 t, .int .i64 k, .int .i64 fi, .int .i64 ix, .bool wr], .int .i64 a, .int .i64 b] w _
  by_cases h : k = 2
  · subst h
    have e1 : part ⟨f, t, 2, fi, ix, wr⟩ a b = ⟨a, b, 2, fi, wrap64 (wrap64 (ix + a) - f), wr⟩ := rfl
    rw [e1]
    clear e1
    go_enter Try.func29, Try.ntmps29
    go_wp2
    have hh := two_boxes w (.cells #[.int .i64 a, .int .i64 b, .int .i64 2, .int .i64 fi, .int .i64 (wrap64 (wrap64 (ix + a) - f)), .bool wr] 25) ⟨a, b, 2, fi, wrap64 (wrap64 (ix + a) - f), wr⟩
    refine bodyPost_ret (res25 rfl _ _ _ _ rfl hh.1) rfl ?_
    exact ⟨rfl, hh.2⟩
  · have e1 : part ⟨f, t, k, fi, ix, wr⟩ a b = ⟨a, b, k, fi, ix, wr⟩ := by simp [part, h]
    rw [e1]
    clear e1
    have d : (k == 2) = false := by simp; omega
    go_enter Try.func29, Try.ntmps29
    go_wp2
    have hh := two_boxes w (.cells #[.int .i64 a, .int .i64 b, .int .i64 k, .int .i64 fi, .int .i64 ix, .bool wr] 25) ⟨a, b, k, fi, ix, wr⟩
    refine bodyPost_ret (res25 rfl _ _ _ _ rfl hh.1) rfl ?_
    exact ⟨rfl, hh.2⟩

set_option maxHeartbeats 4000000 in
theorem ppart (x : Rg) (a b : Int) (w : World) : Calls Try.prog 28 #[rv x, .int .i64 a, .int .i64 b] w fun e w' => e = .returned (rv (part x a b)) ∧ Below w.heap.size w w' := by
  obtain ⟨f, t, k, fi, ix, wr⟩ := x
  show Calls Try.prog 28 #[.agg #[.int .i64 f, .int .i64 t, .int .i64 k, .int .i64 fi, .int .i64 ix, .bool wr], .int .i64 a, .int .i64 b] w _
  by_cases h : k = 2
  · subst h
    have HK : Hid (∀ w, Calls Try.prog 22 #[.agg #[.int .i64 f, .int .i64 t, .int .i64 2, .int .i64 fi, .int .i64 ix, .bool wr], .int .i64 a] w fun e w' => e = .returned (.agg #[.int .i64 fi, .int .i64 (kI ⟨f, t, 2, fi, ix, wr⟩ a)]) ∧ Below w.heap.size w w') := fun w => pkey ⟨f, t, 2, fi, ix, wr⟩ a w
    have e1 : part ⟨f, t, 2, fi, ix, wr⟩ a b = ⟨a, b, 2, fi, kI ⟨f, t, 2, fi, ix, wr⟩ a, wr⟩ := rfl
    rw [e1]
    clear e1
    generalize kI ⟨f, t, 2, fi, ix, wr⟩ a = I at HK
    go_enter Try.func28, Try.ntmps28
    go_wp2_with fail
    refine (HK.out _).mono ?_
    rintro e w1 ⟨rfl, hb1⟩
    have hr : RowAt w1 w.heap.size 25 (rc ⟨f, t, 2, fi, ix, wr⟩) := ((RowAt.new w #[.int .i64 f, .int .i64 t, .int .i64 2, .int .i64 fi, .int .i64 ix, .bool wr] 25).alloc _).later hb1
    have hz : RowAt w1 (w.heap.size + 1) 25 (rc zeroR) := (two_boxes w _ zeroR).1.later hb1
    have hB : Below w.heap.size w w1 := bel_trans (two_boxes w _ zeroR).2 hb1
    clear hb1
    obtain ⟨c0, c1, c2, c3, c4, c5⟩ := hr.six
    obtain ⟨z0, z1, z2, z3, z4, z5⟩ := hz.six
    have f0 := hr.frozen 0
    have f1 := hr.frozen 1
    have f4 := hr.frozen 4
    have g0 := hz.frozen 0
    have g1 := hz.frozen 1
    have g2 := hz.frozen 2
    have g3 := hz.frozen 3
    have g4 := hz.frozen 4
    have g5 := hz.frozen 5
    simp only [zeroR] at c0 c1 c2 c3 c4 c5 z0 z1 z2 z3 z4 z5
    have hf := fun w => field37 (.int .i64 fi) (.int .i64 I) w
    go_wp2_with fail
    have hz2 : RowAt (((w1.setCell ⟨w.heap.size, 4, none⟩ (.int .i64 I)).setCell ⟨w.heap.size, 0, none⟩ (.int .i64 a)).setCell ⟨w.heap.size, 1, none⟩ (.int .i64 b)) (w.heap.size + 1) 25 (rc zeroR) := ((hz.other (by omega) 4 _).other (by omega) 0 _).other (by omega) 1 _
    have hB2 := ((hB.setCell (p := ⟨w.heap.size, 4, none⟩) (Nat.le_refl _) (.int .i64 I)).setCell (p := ⟨w.heap.size, 0, none⟩) (Nat.le_refl _) (.int .i64 a)).setCell (p := ⟨w.heap.size, 1, none⟩) (Nat.le_refl _) (.int .i64 b)
    obtain ⟨w5, hw5, hr5, hB5, -⟩ := setSix ⟨a, b, 2, fi, I, wr⟩ hz2 hB2 (Nat.le_succ _)
    simp only at hw5
    rw [← hw5]
    refine bodyPost_ret (res25 rfl _ _ _ _ rfl hr5) rfl ?_
    exact ⟨rfl, hB5⟩
  · have e1 : part ⟨f, t, k, fi, ix, wr⟩ a b = ⟨a, b, k, fi, ix, wr⟩ := by simp [part, h]
    rw [e1]
    clear e1
    have d : (k == 2) = false := by simp; omega
    go_enter Try.func28, Try.ntmps28
    go_wp2
    have hh := two_boxes w (.cells #[.int .i64 a, .int .i64 b, .int .i64 k, .int .i64 fi, .int .i64 ix, .bool wr] 25) ⟨a, b, k, fi, ix, wr⟩
    refine bodyPost_ret (res25 rfl _ _ _ _ rfl hh.1) rfl ?_
    exact ⟨rfl, hh.2⟩
end Go.Proofs.Ytagobeoabkbhaaa
