/-
  bits.Map's calls told of its bits alone.
-/
import Derived.Test.YtijoocoacaogoaaDoorW6
import Derived.Deep.RegionWith
namespace Go.Proofs.YtijoocoacaogoaaDoor
open Go.RowKit

theorem drewN_add (w : World) (n m : Nat) : (w.drewN n).drewN m = w.drewN (n + m) := by
  simp [World.drewN, Nat.add_assoc]
theorem below_drawn {B : Nat} {w w' : World} (h : Below B w w') (n : Nat) : Below B w (w'.drewN n) := ⟨h.os, h.tape, h.output, h.size, h.block⟩
theorem MapIs.below {B : Nat} {w w' : World} {bm bw : Nat} {bs : List Bool} {ws : List Nat} (hm : MapIs w bm bw bs ws) (hb : Below B w w') (h1 : bm < B) (h2 : bw < B) : MapIs w' bm bw bs ws :=
  ⟨hm.m.below hb h1, hm.r.below hb h2, hm.ne, hm.len, hm.le, hm.lt, hm.bit⟩

/-! ### the map's calls, told of its bits alone -/
def MapB (w : World) (bm bw : Nat) (bs : List Bool) : Prop := ∃ ws, MapIs w bm bw bs ws
theorem MapB.below {B : Nat} {w w' : World} {bm bw : Nat} {bs : List Bool} (hm : MapB w bm bw bs) (hb : Below B w w') (h1 : bm < B) (h2 : bw < B) : MapB w' bm bw bs := by
  obtain ⟨ws, hm⟩ := hm; exact ⟨ws, hm.below hb h1 h2⟩
theorem MapB.but {b : Nat} {w w' : World} {bm bw : Nat} {bs : List Bool} (hm : MapB w bm bw bs) (hb : But b w w') (h1 : bm ≠ b) (h2 : bw ≠ b) : MapB w' bm bw bs := by
  obtain ⟨ws, hm⟩ := hm; exact ⟨ws, hm.m.but hb h1, hm.r.but hb h2, hm.ne, hm.len, hm.le, hm.lt, hm.bit⟩
theorem MapB.drewN {w : World} {bm bw : Nat} {bs : List Bool} (hm : MapB w bm bw bs) (n : Nat) : MapB (w.drewN n) bm bw bs := by
  obtain ⟨ws, hm⟩ := hm; exact ⟨ws, hm.m.drewN n, hm.r.drewN n, hm.ne, hm.len, hm.le, hm.lt, hm.bit⟩
theorem MapB.lt {w : World} {bm bw : Nat} {bs : List Bool} (hm : MapB w bm bw bs) : bm < w.heap.size ∧ bw < w.heap.size ∧ bm ≠ bw ∧ bs.length ≤ 65536 := by
  obtain ⟨ws, hm⟩ := hm; exact ⟨hm.m.lt, hm.r.lt, hm.ne, hm.le⟩

theorem getB (bm bw : Nat) (bs : List Bool) (i : Int) (w : World) (hm : MapB w bm bw bs) :
    Calls Tryd.prog 28 #[.pointer (some ⟨bm, 0, none⟩), .int .i64 i] w fun e w' => e = .returned (.bool (bget bs i)) ∧ w' = w := by
  obtain ⟨ws, hm⟩ := hm; exact get_any bm bw bs ws i w hm
theorem countB (bm bw : Nat) (bs : List Bool) (w : World) (hm : MapB w bm bw bs) :
    Calls Tryd.prog 27 #[.pointer (some ⟨bm, 0, none⟩)] w fun e w' => e = .returned (.int .i64 (bs.count true)) ∧ w' = w := by
  obtain ⟨ws, hm⟩ := hm; exact count_any bm bw bs ws w hm
theorem lenB (bm bw : Nat) (bs : List Bool) (w : World) (hm : MapB w bm bw bs) :
    Calls Tryd.prog 29 #[.pointer (some ⟨bm, 0, none⟩)] w fun e w' => e = .returned (.int .i64 bs.length) ∧ w' = w := by
  obtain ⟨ws, hm⟩ := hm; exact len_any bm bw bs ws w hm
theorem nextB (bm bw : Nat) (bs : List Bool) (g : Int) (f : Nat) (on : Bool) (w : World) (hm : MapB w bm bw bs) (hT : Tab w) (hg : g = f) :
    Calls Tryd.prog 31 #[.pointer (some ⟨bm, 0, none⟩), .int .i64 g, .bool on] w fun e w' => (∃ r, e = .returned (.int .i64 r) ∧ IsNext bs f on r) ∧ w' = w := by
  obtain ⟨ws, hm⟩ := hm
  refine (next_nat bm bw bs ws g f on w hm hT hg).mono ?_
  rintro e w' ⟨r, rfl, hr, rfl⟩
  exact ⟨⟨r, rfl, hr⟩, rfl⟩

theorem bset_len (bs : List Bool) (i : Int) (on : Bool) : (bset bs i on).length = bs.length := by unfold bset; split <;> simp

theorem setB (bm bw : Nat) (bs : List Bool) (i : Int) (on : Bool) (w : World) (hm : MapB w bm bw bs) :
    Calls Tryd.prog 25 #[.pointer (some ⟨bm, 0, none⟩), .int .i64 i, .bool on] w fun e w' => e = .returned (.bool (turned bs i on)) ∧ MapB w' bm bw (bset bs i on) ∧ But bw w w' := by
  obtain ⟨ws, hm⟩ := hm
  by_cases hn : 0 ≤ i ∧ i < bs.length
  · obtain ⟨n, rfl⟩ := Int.eq_ofNat_of_zero_le hn.1
    have hnl : n < bs.length := by omega
    have e0 : bset bs n on = bs.set n on := by simp [bset]
    have et : turned bs n on = (bs.getD n false != on) := by unfold turned; rw [decide_eq_true hn, bget_in]; rfl
    rw [e0, et]
    by_cases hon : bs.getD n false = on
    · refine (set_same bm bw bs ws n on w hm hnl hon).mono ?_
      rintro e w' ⟨rfl, rfl⟩
      have e1 : bs.set n on = bs := by
        rw [← hon]
        apply List.ext_getElem (by simp)
        intro j h1 h2
        rw [List.getElem_set]
        split
        · rename_i h; subst h; simp [hnl]
        · rfl
      rw [e1]
      exact ⟨by rw [hon]; simp, ⟨ws, hm⟩, But.refl _ _⟩
    · refine (set_turn bm bw bs ws n on w hm hnl (by cases on <;> simp_all)).mono ?_
      rintro e w' ⟨rfl, h1, h2⟩
      exact ⟨by rw [bne_iff_ne.2 hon], ⟨_, h1⟩, h2⟩
  · refine (set_out bm bw bs ws i on w hm hn).mono ?_
    rintro e w' ⟨rfl, rfl⟩
    have e1 : bset bs i on = bs := by
      unfold bset
      split
      · exact List.set_eq_of_length_le (by omega)
      · rfl
    rw [e1]
    exact ⟨by unfold turned; rw [decide_eq_false hn]; rfl, ⟨ws, hm⟩, But.refl _ _⟩

theorem newB (n : Int) (k : Nat) (w : World) (hk : n < 0 ∧ k = 0 ∨ n = k ∧ k ≤ 65536 ∨ 65536 < n ∧ k = 65536) :
    Calls Tryd.prog 24 #[.int .i64 n] w fun e w' => e = .returned (.pointer (some ⟨w.heap.size + 1, 0, none⟩)) ∧ MapB w' (w.heap.size + 1) w.heap.size (List.replicate k false) ∧ Below w.heap.size w w' := by
  refine (new_core n k w hk).mono ?_
  rintro e w' ⟨rfl, h1, h2⟩
  exact ⟨rfl, ⟨_, h1⟩, h2⟩


end Go.Proofs.YtijoocoacaogoaaDoor
