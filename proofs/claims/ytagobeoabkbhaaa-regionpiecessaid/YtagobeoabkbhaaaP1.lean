/-
  Regions by value: the contracts of both Valid, of pages and of both Key.
-/
import Derived.Test.YtagobeoabkbhaaaMem
import Derived.Test.YtagobeoabkbhaaaCut
import Derived.Test.YtagobeoabkbhaaaRows
import Derived.Deep.RegionHeld3
import Derived.Laws.ResultCell
import Derived.Laws.Rows
namespace Go.Proofs.Ytagobeoabkbhaaa
open Go.RowKit

theorem below_drawn {B : Nat} {w w' : World} (h : Below B w w') (n : Nat) : Below B w (w'.drewN n) := ⟨h.os, h.tape, h.output, h.size, h.block⟩
theorem cell_later {w w' : World} {p : Addr} {v : Value} (hb : Below w.heap.size w w') (h : w.cell? p = some v) : w'.cell? p = some v := by
  rw [hb.cell (p := p) (block_lt_of_cell (a := p) h)]; exact h
theorem RowAt.later {w w' : World} {b : Nat} {t : TypeId} {vs : List Value} (h : RowAt w b t vs) (hb : Below w.heap.size w w') : RowAt w' b t vs := h.below hb h.lt
theorem bel_trans {w w1 w2 : World} (h : Below w.heap.size w w1) (h2 : Below w1.heap.size w1 w2) : Below w.heap.size w w2 := h.trans (h2.mono h.size)

/-- A region's value, and its cells. -/
abbrev rv (x : Rg) : Value := .agg #[.int .i64 x.f, .int .i64 x.t, .int .i64 x.k, .int .i64 x.fi, .int .i64 x.ix, .bool x.wr]
def rc (x : Rg) : List Value := [.int .i64 x.f, .int .i64 x.t, .int .i64 x.k, .int .i64 x.fi, .int .i64 x.ix, .bool x.wr]
theorem RowAt.six {w : World} {b : Nat} {x : Rg} (h : RowAt w b 25 (rc x)) :
    w.cell? ⟨b, 0, none⟩ = some (.int .i64 x.f) ∧ w.cell? ⟨b, 1, none⟩ = some (.int .i64 x.t) ∧ w.cell? ⟨b, 2, none⟩ = some (.int .i64 x.k) ∧ w.cell? ⟨b, 3, none⟩ = some (.int .i64 x.fi) ∧ w.cell? ⟨b, 4, none⟩ = some (.int .i64 x.ix) ∧ w.cell? ⟨b, 5, none⟩ = some (.bool x.wr) :=
  ⟨by rw [h.cell]; rfl, by rw [h.cell]; rfl, by rw [h.cell]; rfl, by rw [h.cell]; rfl, by rw [h.cell]; rfl, by rw [h.cell]; rfl⟩
/-- A region's box laid. -/
theorem boxOn (w w2 : World) (x : Rg) (hB : Below w.heap.size w w2) : ∃ w3, w3 = w2.alloc (.cells #[.int .i64 x.f, .int .i64 x.t, .int .i64 x.k, .int .i64 x.fi, .int .i64 x.ix, .bool x.wr] 25) ∧ RowAt w3 w2.heap.size 25 (rc x) ∧ Below w.heap.size w w3 ∧ Below w2.heap.size w2 w3 :=
  ⟨_, rfl, RowAt.new w2 #[.int .i64 x.f, .int .i64 x.t, .int .i64 x.k, .int .i64 x.fi, .int .i64 x.ix, .bool x.wr] 25, hB.trans ((below_alloc _ _).mono hB.size), below_alloc _ _⟩

theorem ppages1 (x : Rg) (w : World) (h : Vd x) : Calls Try.prog 27 #[rv x] w fun e w' => e = .returned (.int .i64 (x.t - x.f)) ∧ Below w.heap.size w w' := by
  obtain ⟨f, t, k, fi, ix, wr⟩ := x
  obtain ⟨h1, h2, h3, h4⟩ := h
  simp only at h1 h2 h3 h4
  clear h4
  show Calls Try.prog 27 #[.agg #[.int .i64 f, .int .i64 t, .int .i64 k, .int .i64 fi, .int .i64 ix, .bool wr]] w fun e w' => e = .returned (.int .i64 (t - f)) ∧ Below w.heap.size w w'
  have e1 : IntKind.i64.wrap (t - f) = t - f := by rw [IntKind.wrap_i64]; omega
  go_enter Try.func27, Try.ntmps27
  go_wp2
  go_ret
  exact ⟨rfl, below_alloc _ _⟩

set_option maxHeartbeats 4000000 in
theorem pvalid (x : Rg) (w : World) : Calls Try.prog 17 #[rv x] w fun e w' => e = .returned (.bool (vd x)) ∧ Below w.heap.size w w' := by
  obtain ⟨f, t, k, fi, ix, wr⟩ := x
  show Calls Try.prog 17 #[.agg #[.int .i64 f, .int .i64 t, .int .i64 k, .int .i64 fi, .int .i64 ix, .bool wr]] w fun e w' => e = .returned (.bool (vd ⟨f, t, k, fi, ix, wr⟩)) ∧ Below w.heap.size w w'
  have Hno : ∀ h : ¬ Vd ⟨f, t, k, fi, ix, wr⟩, vd ⟨f, t, k, fi, ix, wr⟩ = false := vd_no
  have Hyes : ∀ h : Vd ⟨f, t, k, fi, ix, wr⟩, vd ⟨f, t, k, fi, ix, wr⟩ = true := (vd_iff _).2
  simp only [Vd] at Hno Hyes
  obtain ⟨V, hV⟩ : ∃ V, V = vd ⟨f, t, k, fi, ix, wr⟩ := ⟨_, rfl⟩
  rw [← hV] at Hno Hyes ⊢
  clear hV
  by_cases h1 : f < 0
  · have d1 : decide (f < 0) = true := by simp; omega
    obtain rfl := Hno (by omega)
    clear Hyes Hno
    go_enter Try.func17, Try.ntmps17
    go_wp2
    go_ret
    exact ⟨rfl, below_alloc _ _⟩
  have d1 : decide (f < 0) = false := by simp; omega
  by_cases h2 : t ≤ f
  · have d2 : decide (t ≤ f) = true := by simp; omega
    obtain rfl := Hno (by omega)
    clear Hyes Hno
    go_enter Try.func17, Try.ntmps17
    go_wp2
    go_ret
    exact ⟨rfl, below_alloc _ _⟩
  have d2 : decide (t ≤ f) = false := by simp; omega
  by_cases h3 : 65536 < t
  · have d3 : decide (65536 < t) = true := by simp; omega
    obtain rfl := Hno (by omega)
    clear Hyes Hno
    go_enter Try.func17, Try.ntmps17
    go_wp2
    go_ret
    exact ⟨rfl, below_alloc _ _⟩
  have d3 : decide (65536 < t) = false := by simp; omega
  by_cases h4 : k = 1
  · have d4 : (k == 1) = true := by simp; omega
    by_cases h5 : fi = 0
    · have d5 : (fi == 0) = true := by simp; omega
      have HQ : Hid (V = (ix == 0)) := by
        show _ = _
        by_cases h6 : ix = 0
        · rw [Hyes (by omega)]; simp [h6]
        · rw [Hno (by omega)]; simp [h6]
      clear Hyes Hno
      go_enter Try.func17, Try.ntmps17
      go_wp2
      go_ret
      exact ⟨by rw [HQ.out]; rfl, below_alloc _ _⟩
    · have d5 : (fi == 0) = false := by simp; omega
      obtain rfl := Hno (by omega)
      clear Hyes Hno
      go_enter Try.func17, Try.ntmps17
      go_wp2
      go_ret
      exact ⟨rfl, below_alloc _ _⟩
  have d4 : (k == 1) = false := by simp; omega
  by_cases h5 : k = 2
  · subst h5
    clear h4
    have d5 : ((2 : Int) == 2) = true := rfl
    by_cases h6 : fi < 0
    · have d6 : decide (0 ≤ fi) = false := by simp; omega
      obtain rfl := Hno (by omega)
      clear Hyes Hno
      go_enter Try.func17, Try.ntmps17
      go_wp2
      go_quiet (fail)
      go_wp2
      go_ret
      exact ⟨rfl, below_drawn (below_alloc _ _) _⟩
    have d6 : decide (0 ≤ fi) = true := by simp; omega
    by_cases h7 : 1048576 < fi
    · have d7 : decide (fi ≤ 1048576) = false := by simp; omega
      obtain rfl := Hno (by omega)
      clear Hyes Hno
      go_enter Try.func17, Try.ntmps17
      go_wp2
      go_quiet (fail)
      go_wp2
      go_ret
      exact ⟨rfl, below_drawn (below_alloc _ _) _⟩
    have d7 : decide (fi ≤ 1048576) = true := by simp; omega
    by_cases h8 : ix < 0
    · have d8 : decide (0 ≤ ix) = false := by simp; omega
      obtain rfl := Hno (by omega)
      clear Hyes Hno
      go_enter Try.func17, Try.ntmps17
      go_wp2
      go_quiet (fail)
      go_wp2
      go_ret
      exact ⟨rfl, below_drawn (below_alloc _ _) _⟩
    have d8 : decide (0 ≤ ix) = true := by simp; omega
    have HQ : Hid (V = decide (ix ≤ IntKind.i64.wrap (2097152 - (t - f)))) := by
      show _ = _
      have ew : IntKind.i64.wrap (2097152 - (t - f)) = 2097152 - (t - f) := by rw [IntKind.wrap_i64]; omega
      rw [ew]
      by_cases h9 : ix ≤ 2097152 - (t - f)
      · rw [Hyes (by omega)]; simp [h9]
      · rw [Hno (by omega)]; simp [h9]
    clear Hyes Hno
    have HP : Hid (∀ w, Calls Try.prog 27 #[.agg #[.int .i64 f, .int .i64 t, .int .i64 2, .int .i64 fi, .int .i64 ix, .bool wr]] w fun e w' => e = .returned (.int .i64 (t - f)) ∧ Below w.heap.size w w') := by
      intro w
      go_enter Try.func27, Try.ntmps27
      go_wp2
      go_ret
      exact ⟨rfl, below_alloc _ _⟩
    have HS : Hid (∀ w B, (w.cell? ⟨B, 0, none⟩ = some (.int .i64 f) ∧ w.cell? ⟨B, 1, none⟩ = some (.int .i64 t) ∧ w.cell? ⟨B, 2, none⟩ = some (.int .i64 2) ∧ w.cell? ⟨B, 3, none⟩ = some (.int .i64 fi) ∧ w.cell? ⟨B, 4, none⟩ = some (.int .i64 ix) ∧ w.cell? ⟨B, 5, none⟩ = some (.bool wr)) → Calls Try.prog 27 #[.agg #[.int .i64 f, .int .i64 t, .int .i64 2, .int .i64 fi, .int .i64 ix, .bool wr]] w fun e w' => e = .returned (.int .i64 (t - f)) ∧ Below w.heap.size w w' ∧ w'.cell? ⟨B, 0, none⟩ = some (.int .i64 f) ∧ w'.cell? ⟨B, 1, none⟩ = some (.int .i64 t) ∧ w'.cell? ⟨B, 2, none⟩ = some (.int .i64 2) ∧ w'.cell? ⟨B, 3, none⟩ = some (.int .i64 fi) ∧ w'.cell? ⟨B, 4, none⟩ = some (.int .i64 ix) ∧ w'.cell? ⟨B, 5, none⟩ = some (.bool wr)) := by
      intro w B h
      refine (HP.out w).mono ?_
      rintro e w' ⟨rfl, h2⟩
      exact ⟨rfl, h2, cell_later h2 h.1, cell_later h2 h.2.1, cell_later h2 h.2.2.1, cell_later h2 h.2.2.2.1, cell_later h2 h.2.2.2.2.1, cell_later h2 h.2.2.2.2.2⟩
    obtain ⟨w0, hw0, hr0, hB0, -⟩ := boxOn w w ⟨f, t, 2, fi, ix, wr⟩ (Below.refl _ _)
    obtain ⟨c0, c1, c2, c3, c4, c5⟩ := hr0.six
    simp only at hw0 c0 c1 c2 c3 c4 c5
    go_enter Try.func17, Try.ntmps17
    go_wp2_with fail
    rw [← hw0]
    clear hw0 hr0
    go_region_held3 (fun w' => w'.cell? ⟨w.heap.size, 0, none⟩ = some (.int .i64 f) ∧ w'.cell? ⟨w.heap.size, 1, none⟩ = some (.int .i64 t) ∧ w'.cell? ⟨w.heap.size, 2, none⟩ = some (.int .i64 2) ∧ w'.cell? ⟨w.heap.size, 3, none⟩ = some (.int .i64 fi) ∧ w'.cell? ⟨w.heap.size, 4, none⟩ = some (.int .i64 ix) ∧ w'.cell? ⟨w.heap.size, 5, none⟩ = some (.bool wr)) (go_keep)
      ((go_at_call 27; refine (HS.out _ _ (by assumption)).mono ?_; rintro e w2 ⟨rfl, hbw, q0, q1, q2, q3, q4, q5⟩))
    all_goals
      go_wp2
      go_ret
      exact ⟨by rw [HQ.out]; rfl, bel_trans (below_drawn hB0 1) hbw⟩
  · have d5 : (k == 2) = false := by simp; omega
    obtain rfl := Hno (by omega)
    clear Hyes Hno
    go_enter Try.func17, Try.ntmps17
    go_wp2
    go_ret
    exact ⟨rfl, below_alloc _ _⟩
end Go.Proofs.Ytagobeoabkbhaaa
