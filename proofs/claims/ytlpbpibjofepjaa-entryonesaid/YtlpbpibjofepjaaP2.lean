/-
  The contract of entry.Pack.
-/
import Derived.Test.YtlpbpibjofepjaaP1
import Derived.Deep.RegionHeld3
namespace Go.Proofs.Ytlpbpibjofepjaa
open Go.RowKit

theorem cell_later {w w' : World} {p : Addr} {v : Value} (hb : Below w.heap.size w w') (h : w.cell? p = some v) : w'.cell? p = some v := by
  rw [hb.cell (p := p) (block_lt_of_cell (a := p) h)]; exact h
theorem bi_bd (b : Bool) : 0 ≤ bi b ∧ bi b ≤ 1 := by cases b <;> decide

theorem mayB_kind {k p : Int} {a b : Bool} (h : mayB k p a b = true) : 0 ≤ k ∧ k ≤ 2 := by
  unfold mayB at h
  split at h
  · omega
  · simp at h; omega

theorem i64_four {k p : Int} {a b : Bool} (hk : 0 ≤ k ∧ k ≤ 2) (hp : -9223372036854775808 ≤ p ∧ p ≤ 9223372036854775807) : I64s [k, p, bi a, bi b] := by
  intro i hi
  have h1 := bi_bd a
  have h2 := bi_bd b
  have : i < 4 := hi
  match i, this with
  | 0, _ => simp; omega
  | 1, _ => simp; omega
  | 2, _ => simp; omega
  | 3, _ => simp; omega

/-- bits.Pack of an entry's fields. -/
theorem pbits (q q' : Option Addr) (k p : Int) (a b : Bool) (w : World) (hm : mayB k p a b = true) (hp : -9223372036854775808 ≤ p ∧ p ≤ 9223372036854775807) (h1 : IntsAt w q Ws) (h2 : IntsAt w q' [k, p, bi a, bi b]) :
    Calls Try.prog 21 #[.slice q 4 4, .slice q' 4 4] w fun e w' => e = .returned (.tuple #[.int .u64 (packX k p a b), .int .i64 (packE k p a b)]) ∧ w' = w := by
  have hk := mayB_kind hm
  by_cases hf : 0 ≤ p ∧ p < 16777216
  · have hF : Fit Ws [k, p, bi a, bi b] := (fitWs k p a b).2 ⟨by omega, hf⟩
    have := pack_len q q' 4 4 4 4 Ws [k, p, bi a, bi b] w rfl rfl (by decide) rfl h1 h2 (i64_four hk hp) spanWs hF
    rw [pack_word] at this
    have ok : packOk k p a b = true := by simp [packOk, hm, hf]
    simpa [packX, packE, ok] using this
  · have hF : ¬ Fit Ws [k, p, bi a, bi b] := fun h => hf ((fitWs k p a b).1 h).2
    have := pack_no q q' 4 4 Ws [k, p, bi a, bi b] w (by decide) h1 h2 (i64_four hk hp) (fun h => hF h.2.2)
    have ok : packOk k p a b = false := by simp [packOk, hm]; omega
    simpa [packX, packE, ok, Ws] using this

theorem belA {w w1 w2 : World} (o : Obj) (hb : Below w.heap.size w w1) (hbw : Below w1.drew.heap.size w1.drew w2) : Below w.heap.size w (w2.alloc o) := by
  have h1 : Below w.heap.size w w1.drew := below_drawn hb 1
  have h2 := h1.trans (hbw.mono h1.size)
  exact h2.trans ((below_alloc w2 o).mono h2.size)
theorem belB {w w1 w2 : World} {o : Obj} (hb : Below w.heap.size w w1) (hbw : Below (w1.drew.alloc o).heap.size (w1.drew.alloc o) w2) : Below w.heap.size w w2 := by
  have h1 : Below w.heap.size w w1.drew := below_drawn hb 1
  have h2 := h1.trans ((below_alloc w1.drew o).mono h1.size)
  exact h2.trans (hbw.mono h2.size)

/-- widths, with what an entry's box holds kept in sight. -/
theorem pwidthsS (w : World) (B : Nat) (v0 v1 v2 v3 : Value) (h : w.cell? ⟨B, 0, none⟩ = some v0 ∧ w.cell? ⟨B, 1, none⟩ = some v1 ∧ w.cell? ⟨B, 2, none⟩ = some v2 ∧ w.cell? ⟨B, 3, none⟩ = some v3) :
    Calls Try.prog 22 #[] w fun e w' => e = .returned (.slice (some ⟨w.heap.size, 0, none⟩) 4 4) ∧ IntsAt w' (some ⟨w.heap.size, 0, none⟩) Ws ∧ Below w.heap.size w w' ∧ w'.cell? ⟨B, 0, none⟩ = some v0 ∧ w'.cell? ⟨B, 1, none⟩ = some v1 ∧ w'.cell? ⟨B, 2, none⟩ = some v2 ∧ w'.cell? ⟨B, 3, none⟩ = some v3 := by
  refine (pwidths w).mono ?_
  rintro e w' ⟨rfl, h1, h2, -⟩
  exact ⟨rfl, h1, h2, cell_later h2 h.1, cell_later h2 h.2.1, cell_later h2 h.2.2.1, cell_later h2 h.2.2.2⟩

set_option maxHeartbeats 4000000 in
theorem ppack (k p : Int) (a b : Bool) (w : World) (hp : -9223372036854775808 ≤ p ∧ p ≤ 9223372036854775807) :
    Calls Try.prog 10 #[.agg #[.int .i64 k, .int .i64 p, .bool a, .bool b]] w fun e w' => e = .returned (.tuple #[.int .u64 (packX k p a b), .int .i64 (packE k p a b)]) ∧ Below w.heap.size w w' := by
  cases hm : mayB k p a b with
  | false =>
    have ok : packOk k p a b = false := by simp [packOk, hm]
    have hX : packX k p a b = 0 := by simp [packX, ok]
    have hE : packE k p a b = 1 := by simp [packE, ok]
    rw [hX, hE]
    clear ok hX hE
    have HM : Hid (mayB k p a b = false) := hm
    clear hm
    go_enter Try.func10, Try.ntmps10
    go_wp2_with fail
    refine (pmayBe k p a b _).mono ?_
    rintro e w1 ⟨rfl, hb1⟩
    rw [HM.out]
    have hb := (below_alloc w (.cells #[.int .i64 k, .int .i64 p, .bool a, .bool b] 24)).trans (hb1.mono (by simp))
    clear hb1
    go_wp2
    go_ret2
    exact ⟨rfl, hb⟩
  | true =>
    obtain ⟨X, hX⟩ : ∃ X, X = packX k p a b := ⟨_, rfl⟩
    obtain ⟨E, hE⟩ : ∃ E, E = packE k p a b := ⟨_, rfl⟩
    rw [← hX, ← hE]
    have HM : Hid (mayB k p a b = true) := hm
    have HP : Hid (∀ (q q' : Option Addr) (w : World), IntsAt w q Ws → IntsAt w q' [k, p, bi a, bi b] → Calls Try.prog 21 #[.slice q 4 4, .slice q' 4 4] w fun e w' => e = .returned (.tuple #[.int .u64 X, .int .i64 E]) ∧ w' = w) := by
      intro q q' w h1 h2
      rw [hX, hE]
      exact pbits q q' k p a b w hm hp h1 h2
    obtain ⟨A, hA⟩ : ∃ A, A = bi a := ⟨_, rfl⟩
    obtain ⟨B, hB⟩ : ∃ B, B = bi b := ⟨_, rfl⟩
    have HA : Hid (∀ w, Calls Try.prog 23 #[.bool a] w fun e w' => e = .returned (.int .u64 A) ∧ w' = w) := by
      intro w; rw [hA]; exact pflag a w
    have HB : Hid (∀ w, Calls Try.prog 23 #[.bool b] w fun e w' => e = .returned (.int .u64 B) ∧ w' = w) := by
      intro w; rw [hB]; exact pflag b w
    obtain ⟨A0, A1⟩ := bi_bd a
    obtain ⟨B0, B1⟩ := bi_bd b
    rw [← hA] at HP A0 A1
    rw [← hB] at HP B0 B1
    have wA : IntKind.i64.wrap A = A := by rw [IntKind.wrap_i64]; omega
    have wB : IntKind.i64.wrap B = B := by rw [IntKind.wrap_i64]; omega
    clear hX hE hm hA hB A0 A1 B0 B1
    go_enter Try.func10, Try.ntmps10
    go_wp2_with fail
    refine (pmayBe k p a b _).mono ?_
    rintro e w1 ⟨rfl, hb1⟩
    rw [HM.out]
    have hb := (below_alloc w (.cells #[.int .i64 k, .int .i64 p, .bool a, .bool b] 24)).trans (hb1.mono (by simp))
    have hr : RowAt w1 w.heap.size 24 [.int .i64 k, .int .i64 p, .bool a, .bool b] := (RowAt.new w #[.int .i64 k, .int .i64 p, .bool a, .bool b] 24).below hb1 (by simp)
    have c0 : w1.cell? ⟨w.heap.size, 0, none⟩ = some (.int .i64 k) := by rw [hr.cell]; rfl
    have c1 : w1.cell? ⟨w.heap.size, 1, none⟩ = some (.int .i64 p) := by rw [hr.cell]; rfl
    have c2 : w1.cell? ⟨w.heap.size, 2, none⟩ = some (.bool a) := by rw [hr.cell]; rfl
    have c3 : w1.cell? ⟨w.heap.size, 3, none⟩ = some (.bool b) := by rw [hr.cell]; rfl
    clear hb1 hr
    go_wp2_with fail
    go_region_held3 (fun w' => w'.cell? ⟨w.heap.size, 0, none⟩ = some (.int .i64 k) ∧ w'.cell? ⟨w.heap.size, 1, none⟩ = some (.int .i64 p) ∧ w'.cell? ⟨w.heap.size, 2, none⟩ = some (.bool a) ∧ w'.cell? ⟨w.heap.size, 3, none⟩ = some (.bool b))
      (go_keep)
      (first
        | (go_at_call 23; refine (HA.out _).mono ?_; rintro e w' ⟨rfl, rfl⟩)
        | (go_at_call 23; refine (HB.out _).mono ?_; rintro e w' ⟨rfl, rfl⟩)
        | (go_at_call 22; refine (pwidthsS _ _ _ _ _ _ (by assumption)).mono ?_; rintro e w2 ⟨rfl, hi, hbw, d0, d1, d2, d3⟩)
        | (go_at_call 21; refine (HP.out _ _ _ (by first | exact hi | exact hi.below (below_alloc _ _)) (by first | exact IntsAt.of_row (t := 3) (RowAt.new _ _ 3) | exact (IntsAt.of_row (t := 3) (RowAt.new _ _ 3)).below hbw)).mono ?_; rintro e w3 ⟨rfl, rfl⟩))
    all_goals
      go_wp2
      go_ret2
      first
        | exact ⟨rfl, belA _ hb hbw⟩
        | exact ⟨rfl, belB hb hbw⟩
end Go.Proofs.Ytlpbpibjofepjaa
