/-
  Contract of the laws' own 'works': the document's examples hold.
-/
import Derived.Test.YtnhlafifmiiliaaDoorW8
namespace Go.Proofs.YtnhlafifmiiliaaDoor
open Go.RowKit

theorem ints_new2 (w : World) (a b : Int) (t : TypeId) : IntsAt (w.alloc (.cells #[.int .i64 a, .int .i64 b] t)) (some ⟨w.heap.size, 0, none⟩) [a, b] :=
  IntsAt.of_row (t := t) (RowAt.new w #[.int .i64 a, .int .i64 b] t)
theorem span48 : SpanOk [4, 8] := by
  intro k h
  match k, h with
  | 0, _ => simp
  | 1, _ => simp
theorem fit48 : Fit [4, 8] [3, 5] := by
  intro k h h'
  match k, h with
  | 0, _ => simp
  | 1, _ => simp
theorem i6435 : I64s [3, 5] := by
  intro k h
  match k, h with
  | 0, _ => simp
  | 1, _ => simp

theorem pack48 (b c cap cap' : Nat) (w : World) (h1 : IntsAt w (some ⟨b, 0, none⟩) [4, 8]) (h2 : IntsAt w (some ⟨c, 0, none⟩) [3, 5]) :
    Calls Tryd.prog 23 #[.slice (some ⟨b, 0, none⟩) 2 cap, .slice (some ⟨c, 0, none⟩) 2 cap'] w fun e w' => e = .returned (.tuple #[.int .u64 83, .int .i64 0]) ∧ w' = w :=
  pack_yes (some ⟨b, 0, none⟩) (some ⟨c, 0, none⟩) cap cap' [4, 8] [3, 5] w (by decide) rfl h1 h2 i6435 span48 fit48

theorem unpack48 (b cap : Nat) (w : World) (h1 : IntsAt w (some ⟨b, 0, none⟩) [4, 8]) :
    Calls Tryd.prog 25 #[.slice (some ⟨b, 0, none⟩) 2 cap, .int .u64 83] w fun e w' => e = .returned (.tuple #[.slice (some ⟨w.heap.size, 0, none⟩) 2 2, .int .i64 0]) ∧ IntsAt w' (some ⟨w.heap.size, 0, none⟩) [3, 5] ∧ Below w.heap.size w w' :=
  unpack_yes (some ⟨b, 0, none⟩) cap [4, 8] 83 w (by decide) h1 span48 (by decide) (by decide)

theorem MapIs.below {B : Nat} {w w' : World} {bm bw : Nat} {bs : List Bool} {ws : List Nat} (hm : MapIs w bm bw bs ws) (hb : Below B w w') (h1 : bm < B) (h2 : bw < B) : MapIs w' bm bw bs ws :=
  ⟨hm.m.below hb h1, hm.r.below hb h2, hm.ne, hm.len, hm.le, hm.lt, hm.bit⟩

theorem new3 (w : World) :
    Calls Tryd.prog 12 #[.int .i64 3] w fun e w' => e = .returned (.pointer (some ⟨w.heap.size + 1, 0, none⟩)) ∧ MapIs w' (w.heap.size + 1) w.heap.size [false, false, false] [0] ∧ Below w.heap.size w w' :=
  new_core 3 3 w (by decide)
theorem set3 (bm bw : Nat) (w : World) (hm : MapIs w bm bw [false, false, false] [0]) :
    Calls Tryd.prog 15 #[.pointer (some ⟨bm, 0, none⟩), .int .i64 1, .bool true] w fun e w' => e = .returned (.bool true) ∧ MapIs w' bm bw [false, true, false] [2] ∧ But bw w w' :=
  set_turn bm bw [false, false, false] [0] 1 true w hm (by decide) (by decide)
theorem get3 (bm bw : Nat) (w : World) (hm : MapIs w bm bw [false, true, false] [2]) :
    Calls Tryd.prog 17 #[.pointer (some ⟨bm, 0, none⟩), .int .i64 1] w fun e w' => e = .returned (.bool true) ∧ w' = w :=
  get_any bm bw [false, true, false] [2] 1 w hm
theorem count3 (bm bw : Nat) (w : World) (hm : MapIs w bm bw [false, true, false] [2]) :
    Calls Tryd.prog 19 #[.pointer (some ⟨bm, 0, none⟩)] w fun e w' => e = .returned (.int .i64 1) ∧ w' = w :=
  count_any bm bw [false, true, false] [2] w hm
theorem len3 (bm bw : Nat) (w : World) (hm : MapIs w bm bw [false, true, false] [2]) :
    Calls Tryd.prog 14 #[.pointer (some ⟨bm, 0, none⟩)] w fun e w' => e = .returned (.int .i64 3) ∧ w' = w :=
  len_any bm bw [false, true, false] [2] w hm
theorem next3 (bm bw : Nat) (w : World) (hm : MapIs w bm bw [false, true, false] [2]) (hT : Tab w) :
    Calls Tryd.prog 21 #[.pointer (some ⟨bm, 0, none⟩), .int .i64 0, .bool true] w fun e w' => e = .returned (.int .i64 1) ∧ w' = w := by
  refine (next_nat bm bw [false, true, false] [2] 0 0 true w hm hT rfl).mono ?_
  rintro e w' ⟨r, rfl, hr, rfl⟩
  have : IsNext [false, true, false] 0 true 1 := Or.inr ⟨1, rfl, by decide, by decide, by decide, fun i _ h => by
    have : i = 0 := by omega
    subst this; decide⟩
  exact ⟨by rw [hr.unique this], rfl⟩
theorem digits83 (w : World) :
    Calls Tryd.prog 28 #[.int .u64 83, .int .i64 4] w fun e w' => e = .returned (.slice (some ⟨w.heap.size, 0, none⟩) 16 16) ∧ IntsAt w' (some ⟨w.heap.size, 0, none⟩) [0, 0, 0, 0, 0, 0, 0, 0, 0, 0, 0, 0, 0, 0, 5, 3] ∧ Below w.heap.size w w' :=
  digits_yes 83 4 w (by decide) (by decide) (by decide)
theorem join83 (b : Nat) (w : World) (h : IntsAt w (some ⟨b, 0, none⟩) [0, 0, 0, 0, 0, 0, 0, 0, 0, 0, 0, 0, 0, 0, 5, 3]) :
    Calls Tryd.prog 30 #[.slice (some ⟨b, 0, none⟩) 16 16, .int .i64 4] w fun e w' => e = .returned (.int .u64 83) ∧ w' = w :=
  join_yes (some ⟨b, 0, none⟩) 16 [0, 0, 0, 0, 0, 0, 0, 0, 0, 0, 0, 0, 0, 0, 5, 3] 4 w (by decide) (by decide) (by decide) h

theorem IntsAt.at {w : World} {b : Nat} {l : List Int} (h : IntsAt w (some ⟨b, 0, none⟩) l) (i : Nat) (hi : i < l.length) : w.cell? ⟨b, i, none⟩ = some (.int .i64 (l.getD i 0)) := by
  obtain ⟨b', off, e, hc⟩ := h i hi
  obtain ⟨rfl, rfl⟩ : b = b' ∧ 0 = off := by simpa using e
  simpa using hc

set_option maxHeartbeats 2000000 in
theorem works_any (w : World) (hT : Tab w) :
    Calls Tryd.prog 11 #[] w fun e w' => e = .returned (.bool true) ∧ Below w.heap.size w w' := by
  have hp := hT.pos
  go_enter Tryd.func11, Tryd.ntmps11
  go_wp2_with fail
  refine (pack48 _ _ _ _ _ ?a1 ?a2).mono ?_
  case a1 => exact (ints_new2 w 4 8 3).below (below_alloc _ _)
  case a2 => simpa using ints_new2 (w.alloc (.cells #[.int .i64 4, .int .i64 8] 3)) 3 5 3
  rintro e w1 ⟨rfl, rfl⟩
  go_wp2_with fail
  refine (unpack48 _ _ _ ?a3).mono ?_
  case a3 => simpa using ints_new2 ((w.alloc (.cells #[.int .i64 4, .int .i64 8] 3)).alloc (.cells #[.int .i64 3, .int .i64 5] 3)) 4 8 3
  rintro e w1 ⟨rfl, hl, hb⟩
  have hb1 : Below w.heap.size w w1 := ((((Below.refl _ _).alloc (Nat.le_refl _) _).alloc (by simp) _).alloc (by simp; omega) _).trans (hb.mono (by simp; omega))
  have hs1 : w.heap.size + 3 < w1.heap.size := by
    have := block_lt_of_cell (hl.at 0 (by decide))
    simpa using this
  have hT1 : Tab w1 := hT.below hb1 hp
  clear hb hT
  simp only [World.size_alloc] at hl ⊢
  go_wp2_with fail
  refine (new3 _).mono ?_
  rintro e w2 ⟨rfl, hm2, hb2⟩
  have hT2 : Tab w2 := hT1.below hb2 (by omega)
  have hl2 := hl.below hb2
  have hB2 : Below w.heap.size w w2 := hb1.trans (hb2.mono (by omega))
  have hs2 : w1.heap.size + 2 ≤ w2.heap.size := by have := hm2.m.lt; omega
  obtain ⟨bw, hbw⟩ : ∃ bw, bw = w1.heap.size := ⟨_, rfl⟩
  rw [← hbw] at hm2 hs2 hs1 ⊢
  clear hl hb2 hT1 hb1 hbw
  go_wp2_with fail
  refine (set3 _ _ _ hm2).mono ?_
  rintro e w3 ⟨rfl, hm3, hb3⟩
  have hT3 : Tab w3 := hT2.but hb3 (by omega)
  have hl3 : w3.cell? ⟨w.heap.size + 1 + 1 + 1, 1, none⟩ = some (.int .i64 5) := by
    have := hl2.at 1 (by decide)
    exact (World.cell?_of_block (a := ⟨w.heap.size + 1 + 1 + 1, 1, none⟩) (hb3.block _ (by show w.heap.size + 1 + 1 + 1 ≠ bw; omega))).trans this
  have hs3 : bw + 2 ≤ w3.heap.size := by have := hb3.size; omega
  have hB3 : Below w.heap.size w w3 := hB2.trans (hb3.below (by omega))
  clear hl2 hb3 hm2 hT2 hB2
  go_wp2_with fail
  refine (digits83 _).mono ?_
  rintro e w4 ⟨rfl, hd4, hb4⟩
  have hT4 : Tab w4 := hT3.below hb4 (by omega)
  have hm4 := hm3.below hb4 (by omega) (by omega)
  have hl4 : w4.cell? ⟨w.heap.size + 1 + 1 + 1, 1, none⟩ = some (.int .i64 5) := cell_later hb4 hl3
  have hd14 : w4.cell? ⟨w3.heap.size, 14, none⟩ = some (.int .i64 5) := hd4.at 14 (by decide)
  have hB4 : Below w.heap.size w w4 := hB3.trans (hb4.mono (by omega))
  clear hl3 hb4 hm3 hT3 hB3
  go_wp2_with (first
    | (go_at_call 17; refine (get3 _ _ _ hm4).mono ?_; rintro e w5 ⟨rfl, rfl⟩)
    | (go_at_call 19; refine (count3 _ _ _ hm4).mono ?_; rintro e w5 ⟨rfl, rfl⟩)
    | (go_at_call 21; refine (next3 _ _ _ hm4 hT4).mono ?_; rintro e w5 ⟨rfl, rfl⟩)
    | (go_at_call 14; refine (len3 _ _ _ hm4).mono ?_; rintro e w5 ⟨rfl, rfl⟩)
    | (go_at_call 30; refine (join83 _ _ hd4).mono ?_; rintro e w5 ⟨rfl, rfl⟩))
  go_ret
  exact ⟨rfl, hB4⟩

end Go.Proofs.YtnhlafifmiiliaaDoor
