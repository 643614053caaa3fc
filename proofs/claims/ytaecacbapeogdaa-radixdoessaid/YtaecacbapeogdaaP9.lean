/-
  Contracts of Path and of the law's row.
-/
import Derived.Test.YtaecacbapeogdaaP8
import Derived.OwnWalk
namespace Go.Proofs.Ytaecacbapeogdaa
open Go.RowKit

def pathL (x : Int) : List Nat := if isPg x then [dg x.toNat 0, dg x.toNat 1, dg x.toNat 2, dg x.toNat 3] else []
theorem pathL_no {x : Int} (h : isPg x = false) : pathL x = [] := by simp [pathL, h]
theorem pathL_nat {p : Nat} (h : p < 65536) : pathL p = [dg p 0, dg p 1, dg p 2, dg p 3] := by simp [pathL, isPg_nat h]
def pathK (p k : Nat) : List Nat := (List.range k).map (dg p)
theorem pathK_four (p : Nat) : pathK p 4 = [dg p 0, dg p 1, dg p 2, dg p 3] := rfl
theorem pathK_succ (p k : Nat) : pathK p (k + 1) = pathK p k ++ [dg p k] := by simp [pathK, List.range_succ]
theorem pathK_len (p k : Nat) : (pathK p k).length = k := by simp [pathK]

set_option maxHeartbeats 2000000 in
theorem ppath (x : Int) (w : World) : Calls Try.prog 24 #[.int .i64 x] w fun e w' => ∃ v, e = .returned v ∧ w'.ownsRow w.heap.size 3 1 v (pathL x).length ((pathL x).map iv) ∧ Below w.heap.size w w' := by
  cases hx : isPg x with
  | false =>
    have e1 : (decide (0 ≤ x) && decide (x < 65536)) = false := hx
    rw [pathL_no hx]
    clear hx
    go_enter Try.func24, Try.ntmps24
    go_wp2_with fail
    refine (pispage _ _).mono ?_
    rintro e w1 ⟨rfl, rfl⟩
    rw [e1]
    go_wp2
    go_ret
    exact ⟨_, rfl, World.ownsRow_nil _ _ _ _, Below.refl _ _⟩
  | true =>
    obtain ⟨p, rfl, hp⟩ := isPg_true hx
    have e1 : (decide (0 ≤ (p : Int)) && decide ((p : Int) < 65536)) = true := hx
    rw [pathL_nat hp, ← pathK_four]
    have hd := fun (w : World) (k sh : Nat) (hk : sh + 4 * k = 12) => pdigit p k sh hp hk w
    obtain ⟨i0, hi, hz0, hz1, hz2⟩ := info_parts info3
    clear hx
    go_enter Try.func24, Try.ntmps24
    go_wp2_with fail
    refine (pispage _ _).mono ?_
    rintro e w1 ⟨rfl, rfl⟩
    rw [e1]
    have hmk := run_make (P := Try.prog) w1 40 3 i0 (.int .i64 0) Try.underlying40 hi hz0 .i64 .i64 0 4 (by omega) (by omega) (by rw [hz2]; omega) (by omega)
    go_wp2
    go_loopw [3, 4] (fun s3 s4 wr => ∃ k : Nat, ((k ≤ 3 ∧ ∃ sh : Nat, sh + 4 * k = 12 ∧ s4 = .int .i64 sh) ∨ (k = 4 ∧ s4 = .int .i64 (-4))) ∧ wr.ownsRow w1.heap.size 3 1 s3 k ((pathK p k).map iv) ∧ Below w1.heap.size w1 wr) (fun _ s4 _ => (intOf s4 + 4).toNat)
    case atStart =>
      refine ⟨0, .inl ⟨by omega, 12, by omega, rfl⟩, World.ownsRow_made w1 _ 4 (Nat.le_refl _) (by decide) ?_, below_alloc _ _⟩
      simp [madeCells]
    case round =>
      clear hmk
      obtain ⟨k, hk, hrow, hb⟩ := hrel
      rcases hk with ⟨hk, sh, hsh, rfl⟩ | ⟨rfl, rfl⟩
      · have hd1 : ∀ w : World, Calls Try.prog 33 #[.int .i64 p, .int .i64 sh] w fun e w' => e = .returned (.int .i64 (dg p k)) ∧ w' = w := fun w => hd w k sh hsh
        have hbs := hb.size
        clear hd
        go_wp2_with (first
          | (go_at_call 33; refine (hd1 _).mono ?_; rintro e w2 ⟨rfl, rfl⟩)
          | (at_builtin; refine wpList_append_own _ rfl _ _ 40 rfl w1.heap.size 3 i0 (.int .i64 0) 1 8 Try.underlying40 hi hz0 hz1 hz2 rfl (by decide) _ _ _ rfl (hrow.alloc _) ⟨w2.heap.size, 0, none⟩ 1 1 [.int .i64 (dg p k)] rfl rfl (cell_one_new _ _ _) (by simp [Value.oneCell']) (by unfold maxLen; omega) (by omega) (by simp; omega) ?_; intro v' w3 hown' hgrow _))
        have hg : (w2.alloc (.cells #[.int .i64 (dg p k)] 3)).grownBy w3 u3.ownBlock := hgrow
        have hb3 : Below w1.heap.size w1 w3 := (hb.trans ((below_alloc _ _).mono hbs)).grown hg (by simp; omega) fun j ej => (hrow.lt j ej).1
        have hr3 : w3.ownsRow w1.heap.size 3 1 v' (k + 1) ((pathK p (k + 1)).map iv) := by rw [pathK_succ]; simpa [iv] using hown'
        by_cases h3 : k = 3
        · subst h3
          have e4 : ((sh : Int) - 4) = -4 := by omega
          exact ⟨⟨4, .inr ⟨rfl, by rw [e4]⟩, hr3, hb3⟩, by simp [intOf]; omega⟩
        · have e4 : ((sh : Int) - 4) = ((sh - 4 : Nat) : Int) := by omega
          exact ⟨⟨k + 1, .inl ⟨by omega, sh - 4, by omega, by rw [e4]⟩, hr3, hb3⟩, by simp [intOf]; omega⟩
      · go_wp2
        go_ret
        exact ⟨_, rfl, hrow, hb⟩

/-! ### rows -/
theorem own_cell {w : World} {B : Nat} {v : Value} {l : List Nat} (h : w.ownsRow B 3 1 v l.length (l.map iv)) {i : Nat} (hi : i < l.length) : ∃ g cap, v = .slice (some ⟨g, 0, none⟩) l.length cap ∧ w.cell? ⟨g, i, none⟩ = some (.int .i64 (l[i] : Nat)) := by
  obtain ⟨a, cap, rfl, h1⟩ := own_form h
  obtain ⟨g, rfl, h2⟩ := h1 (by omega)
  exact ⟨g, cap, rfl, by rw [h2 i (by omega)]; simp [iv, hi]⟩
theorem own_len {w : World} {B : Nat} {v : Value} {l : List Nat} (h : w.ownsRow B 3 1 v l.length (l.map iv)) : ∃ a cap, v = .slice a l.length cap := by
  obtain ⟨a, cap, rfl, h1⟩ := own_form h
  exact ⟨a, cap, rfl⟩
/-- A row of ints is none of a table's blocks. -/
theorem own_tab {w w' : World} {B e t : Nat} {v : Value} {k : Nat} {xs : List Value} {N : Nds} {T : Tab} {n m : Int} (h : w.ownsRow B e 1 v k xs) (he : e = 3) (hh : Heap w t N T n m) (hT : Turn (In N) w w') : w'.ownsRow B e 1 v k xs := by
  refine ⟨h.1, ?_⟩
  rcases h.2 with hn | ⟨g, cap, cur, rfl, hb, hgg, rest⟩
  · exact .inl hn
  · refine .inr ⟨g, cap, cur, rfl, hb, ?_, rest⟩
    rw [hT.block g (lt_of_block hgg) ?_]
    · exact hgg
    · rintro ⟨j, q, hj⟩
      have := hh.row j q g hj
      unfold RowAt at this
      rw [this] at hgg
      injection hgg with hgg
      injection hgg with _ hgg
      subst he
      unfold ty at hgg
      split at hgg <;> cases hgg
theorem own_below {w w' : World} {B : Nat} {e c : Nat} {v : Value} {k : Nat} {xs : List Value} (h : w.ownsRow B e c v k xs) (hb : Below w.heap.size w w') : w'.ownsRow B e c v k xs := own_turn h fun k _ hk => hb.block k hk

set_option maxHeartbeats 2000000 in
theorem prow (B B' : Nat) (va vb : Value) (l : List Nat) (w : World) (hl : l.length < 1000000) (ha : w.ownsRow B 3 1 va l.length (l.map iv)) (hb : w.ownsRow B' 3 1 vb l.length (l.map iv)) :
    Calls Try.prog 21 #[va, vb] w fun e w' => e = .returned (.bool true) ∧ ∃ d, w' = w.drewN d := by
  obtain ⟨a1, c1, e1⟩ := own_len ha
  obtain ⟨a2, c2, e2⟩ := own_len hb
  rw [e1, e2]
  have hll : ((l.length : Int) != (l.length : Int)) = false := by simp
  go_enter Try.func21, Try.ntmps21
  go_wp2
  go_loopw [5] (fun s5 wr => ∃ i : Nat, i ≤ l.length ∧ s5 = .int .i64 i ∧ ∃ d, wr = w.drewN d) (fun s5 _ => l.length - (intOf s5).toNat)
  case atStart => exact ⟨0, by omega, rfl, 0, rfl⟩
  case round =>
    obtain ⟨i, hi, rfl, d, rfl⟩ := hrel
    by_cases hlt : i < l.length
    · obtain ⟨g1, k1, f1, x1⟩ := own_cell ha hlt
      obtain ⟨g2, k2, f2, x2⟩ := own_cell hb hlt
      rw [e1] at f1
      rw [e2] at f2
      injection f1 with f1 _ f3
      injection f2 with f2 _ f4
      subst f1
      subst f2
      subst f3
      subst f4
      obtain ⟨y, hy⟩ : ∃ y : Int, y = (l[i] : Nat) := ⟨_, rfl⟩
      rw [← hy] at x1 x2
      have hyy : (y != y) = false := by simp
      clear hy ha hb e1 e2
      go_wp2
      go_quiet (fail)
      go_wp2
      exact ⟨⟨i + 1, by omega, by go_num, _, rfl⟩, by simp [intOf]; omega⟩
    · go_wp2
      go_ret
      exact ⟨rfl, _, rfl⟩
end Go.Proofs.Ytaecacbapeogdaa
