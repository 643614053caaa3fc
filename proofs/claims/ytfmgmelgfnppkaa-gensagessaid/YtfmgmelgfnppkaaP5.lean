/-
  The contracts of change, for each of the two closures, of Age and of Move.
-/
import Derived.Test.YtfmgmelgfnppkaaP4
namespace Go.Proofs.Ytfmgmelgfnppkaa
open Go.RowKit

theorem guard56 : Try.prog.eqGuardType Try.prog.depth 56 = false := by kernel_rfl
theorem fields56 : Try.prog.fieldsOf 56 = #[{ name := "group", type := 3, offset := 0, embedded := false, tag := "", pkgPath := "millpond/gens", byteOffset := 0 }, { name := "age", type := 3, offset := 1, embedded := false, tag := "", pkgPath := "millpond/gens", byteOffset := 8 }] := by kernel_rfl
theorem under56 : Try.prog.underlying 56 = some (.struct (Try.prog.fieldsOf 56)) := by kernel_rfl
theorem stood56 : Try.prog.stoodInHeld 56 = false := by kernel_rfl
theorem eq56 (f i g j : Int) (w : World) : (Op.equalIn 10000 56 (.agg #[.int .i64 f, .int .i64 i]) (.agg #[.int .i64 g, .int .i64 j])).run Try.prog w = .ok (f == g && i == j) w := by
  have p0 := run_part_plain (P := Try.prog) w plain3 (xs := #[.int .i64 f, .int .i64 i]) (off := 0) (v := .int .i64 f) rfl
  have p1 := run_part_plain (P := Try.prog) w plain3 (xs := #[.int .i64 f, .int .i64 i]) (off := 1) (v := .int .i64 i) rfl
  have q0 := run_part_plain (P := Try.prog) w plain3 (xs := #[.int .i64 g, .int .i64 j]) (off := 0) (v := .int .i64 g) rfl
  have q1 := run_part_plain (P := Try.prog) w plain3 (xs := #[.int .i64 g, .int .i64 j]) (off := 1) (v := .int .i64 j) rfl
  have r0 : (Op.equalIn 9999 3 (.int .i64 f) (.int .i64 g)).run Try.prog w = .ok (f == g) w := run_equalIn_int (P := Try.prog) w 9998 3 .i64 .i64 f g Try.underlying3
  have r1 : (Op.equalIn 9999 3 (.int .i64 i) (.int .i64 j)).run Try.prog w = .ok (i == j) w := run_equalIn_int (P := Try.prog) w 9998 3 .i64 .i64 i j Try.underlying3
  rw [run_equalIn_agg (P := Try.prog) w 9999 56 _ _ under56 stood56, fields56]
  cases hfg : (f == g) <;> cases hij : (i == j) <;> rw [hfg] at r0 <;> rw [hij] at r1 <;> simp [Op.eqFields, p0, p1, q0, q1, r0, r1]

/-! ### the closures -/
def older (a : Int) : Int := if a < 3 then a + 1 else a
theorem box2 (w : World) (o : Obj) (v0 v1 : Value) : RowAt ((w.alloc o).alloc (.cells #[v0, v1] 56)) (w.heap.size + 1) 56 [v0, v1] := by
  have := RowAt.new (w.alloc o) #[v0, v1] 56
  rw [World.size_alloc] at this
  exact this
theorem bel2 (w : World) (o o' : Obj) : Below w.heap.size w ((w.alloc o).alloc o') := bel_trans (below_alloc _ _) (below_alloc _ _) (Nat.le_refl _)
theorem page1 (g a : Int) (h0 : 0 ≤ a) (h3 : a ≤ 3) (w : World) :
    Calls Try.prog 38 #[.agg #[.int .i64 g, .int .i64 a]] w fun e w' => e = .returned (.agg #[.int .i64 g, .int .i64 (older a)]) ∧ Below w.heap.size w w' := by
  by_cases h : a < 3
  · have e : older a = a + 1 := by simp [older, h]
    rw [e]
    clear e
    have hm : a + 1 ≤ 3 := by omega
    go_enter Try.func38, Try.ntmps38
    go_wp2
    refine bodyPost_ret (res56 rfl _ _ _ _ _ rfl (box2 w _ (.int .i64 g) (.int .i64 (a + 1)))) rfl ?_
    exact ⟨rfl, bel2 _ _ _⟩
  · have e : older a = a := by simp [older, h]
    have e3 : a = 3 := by omega
    subst e3
    rw [e]
    clear e h
    go_enter Try.func38, Try.ntmps38
    go_wp2
    refine bodyPost_ret (res56 rfl _ _ _ _ _ rfl (box2 w _ (.int .i64 g) (.int .i64 3))) rfl ?_
    exact ⟨rfl, bel2 _ _ _⟩
theorem pmove1 (g a b : Int) (bx : Nat) (w : World) (hc : w.cell? ⟨bx, 0, none⟩ = some (.int .i64 b)) :
    Calls Try.prog 40 #[.agg #[.int .i64 g, .int .i64 a], .pointer (some ⟨bx, 0, none⟩)] w fun e w' => e = .returned (.agg #[.int .i64 b, .int .i64 a]) ∧ Below w.heap.size w w' := by
  have hc' : ((w.alloc (.cells #[.int .i64 g, .int .i64 a] 56)).alloc (.cells #[.int .i64 0, .int .i64 0] 56)).cell? ⟨bx, 0, none⟩ = some (.int .i64 b) := by
    rw [(bel2 w _ _).cell (p := ⟨bx, 0, none⟩) (block_lt_of_cell (a := ⟨bx, 0, none⟩) hc)]; exact hc
  go_enter Try.func40, Try.ntmps40
  go_wp2
  refine bodyPost_ret (res56 rfl _ _ _ _ _ rfl (box2 w _ (.int .i64 b) (.int .i64 a))) rfl ?_
  exact ⟨rfl, bel2 _ _ _⟩

/-! ### change -/
/-- One turned by next, if it is of the group. -/
def chg (g : Int) (ng na : Int → Int) (x : En) : En := if x.g = g then ⟨x.i, ng x.g, na x.a⟩ else x
theorem chg_i (g : Int) (ng na : Int → Int) (x : En) : (chg g ng na x).i = x.i := by unfold chg; split <;> rfl
/-- Is it another one then? -/
def oth (g : Int) (ng na : Int → Int) (x : En) : Bool := x.g == g && !(ng x.g == x.g && na x.a == x.a)
theorem oth_not {g : Int} {ng na : Int → Int} {x : En} (h : oth g ng na x = false) : chg g ng na x = x := by
  unfold chg
  split
  · rename_i hg
    simp [oth, hg] at h
    exact En.eq rfl (by rw [hg]; exact h.1) h.2
  · rfl
/-- Those that have come turned, the others not. -/
def mid (f : En → En) (lf : Int → Bool) (x : En) : En := if lf x.i then x else f x
theorem mid_i {f : En → En} (hf : ∀ x, (f x).i = x.i) (lf : Int → Bool) (x : En) : (mid f lf x).i = x.i := by
  unfold mid; split
  · rfl
  · exact hf x
theorem mid_start (f : En → En) {L : List En} {lf : Int → Bool} (h : ∀ x ∈ L, lf x.i = true) : turn (mid f lf) L = L := by
  unfold turn
  conv => rhs; rw [← List.map_id L]
  exact List.map_congr_left fun x hx => by simp [mid, h x hx]
theorem mid_end (f : En → En) {L : List En} {lf : Int → Bool} (h : ∀ x ∈ L, lf x.i = false) : turn (mid f lf) L = turn f L :=
  List.map_congr_left fun x hx => by simp [mid, h x hx]
/-- Who comes next is as it was. -/
theorem mid_mem {f : En → En} (hf : ∀ x, (f x).i = x.i) {L : List En} {lf : Int → Bool} {x : En} (hx : x ∈ turn (mid f lf) L) (hl : lf x.i = true) : x ∈ L := by
  obtain ⟨y, hy, rfl⟩ := List.mem_map.1 hx
  rw [mid_i hf] at hl
  have : mid f lf y = y := by simp [mid, hl]
  rw [this]; exact hy
theorem mid_same {f : En → En} {L : List En} (hs : Srt L) {lf : Int → Bool} {x : En} (hx : x ∈ L) (he : f x = x) : turn (mid f (less lf x.i)) L = turn (mid f lf) L :=
  List.map_congr_left fun y hy => by
    by_cases hyx : y.i = x.i
    · have := hs.inj hy hx hyx
      subst this
      unfold mid
      split <;> split <;> simp [he]
    · simp [mid, less, hyx]
theorem mid_next {f : En → En} (hf : ∀ x, (f x).i = x.i) {L : List En} (hs : Srt L) {lf : Int → Bool} {x : En} (hx : x ∈ L) (j : Int) :
    lk (turn (mid f (less lf x.i)) L) j = if j = x.i then some (f x) else lk (turn (mid f lf) L) j := by
  rw [turn_lk (mid_i hf _), turn_lk (mid_i hf _)]
  by_cases hj : j = x.i
  · rw [if_pos hj, hj, lk_self hs hx]
    simp [mid, less]
  · rw [if_neg hj]
    cases hq : lk L j with
    | none => rfl
    | some y =>
      have := (lk_some hq).2
      have hyx : y.i ≠ x.i := by omega
      simp [mid, less, hyx]
theorem turn_lk_some {f : En → En} (hf : ∀ x, (f x).i = x.i) {L : List En} (hs : Srt L) {x : En} (hx : x ∈ L) : (lk (turn f L) x.i).isSome = true := by
  rw [turn_lk hf, lk_self hs hx]; rfl
end Go.Proofs.Ytfmgmelgfnppkaa
