/-
  Contracts of the document's own pool (a row of bools): New, Run, Take, Give, Free, Level.
-/
import Derived.Test.YtijoocoacaogoaaDoorP2
namespace Go.Proofs.YtijoocoacaogoaaDoor
open Go.RowKit

def BoolsAt (w : World) (br : Nat) (bs : List Bool) : Prop := RowAt w br 4 (bs.map Value.bool)
theorem BoolsAt.drewN {w : World} {br : Nat} {bs : List Bool} (h : BoolsAt w br bs) (n : Nat) : BoolsAt (w.drewN n) br bs := RowAt.drewN h n
theorem BoolsAt.but {b : Nat} {w w' : World} {br : Nat} {bs : List Bool} (h : BoolsAt w br bs) (hb : But b w w') (hne : br ≠ b) : BoolsAt w' br bs := RowAt.but h hb hne
theorem BoolsAt.cell {w : World} {br : Nat} {bs : List Bool} (h : BoolsAt w br bs) (i : Nat) (hi : i < bs.length) : w.cell? ⟨br, i, none⟩ = some (.bool bs[i]) := by
  rw [RowAt.cell h]; simp [hi]
theorem BoolsAt.set {w : World} {br : Nat} {bs : List Bool} (h : BoolsAt w br bs) (n : Nat) (on : Bool) : BoolsAt (w.setCell ⟨br, n, none⟩ (.bool on)) br (bs.set n on) := by
  show RowAt _ _ _ _
  rw [List.map_set]
  exact RowAt.set h n (.bool on)
theorem info4 : (Tryd.prog.info? 4).map (fun i => (i.zero, i.size, i.bytes)) = some (some (.bool false), 1, 1) := by kernel_rfl

/-- The document's pool: the struct at rp, its row at br. -/
structure RefIs (w : World) (rp br : Nat) (bs : List Bool) : Prop where
  p : RowAt w rp 37 [.slice (some ⟨br, 0, none⟩) bs.length bs.length]
  l : BoolsAt w br bs
  n1 : rp ≠ br
  le : bs.length ≤ 65536
theorem RefIs.cellp {w : World} {rp br : Nat} {bs : List Bool} (h : RefIs w rp br bs) : w.cell? ⟨rp, 0, none⟩ = some (.slice (some ⟨br, 0, none⟩) bs.length bs.length) := by
  rw [h.p.cell]; rfl
theorem RefIs.drewN {w : World} {rp br : Nat} {bs : List Bool} (h : RefIs w rp br bs) (n : Nat) : RefIs (w.drewN n) rp br bs := ⟨h.p.drewN n, h.l.drewN n, h.n1, h.le⟩
theorem RefIs.but {b : Nat} {w w' : World} {rp br : Nat} {bs : List Bool} (h : RefIs w rp br bs) (hb : But b w w') (h1 : rp ≠ b) (h2 : br ≠ b) : RefIs w' rp br bs := ⟨h.p.but hb h1, h.l.but hb h2, h.n1, h.le⟩
theorem RefIs.set {w : World} {rp br : Nat} {bs : List Bool} (h : RefIs w rp br bs) (n : Nat) (on : Bool) : RefIs (w.setCell ⟨br, n, none⟩ (.bool on)) rp br (bs.set n on) :=
  ⟨by have := h.p.other (c := br) h.n1 n (.bool on); simpa using this, h.l.set n on, h.n1, by simpa using h.le⟩

theorem ref_made (w w1 : World) (k : Nat) (hk : k ≤ 65536) (hr : RowAt w1 w.heap.size 4 (List.replicate k (.bool false))) (hz : w1.heap.size = w.heap.size + 1) (hb : Below w.heap.size w w1) :
    RefIs (w1.alloc (.cells #[.slice (some ⟨w.heap.size, 0, none⟩) k k] 37)) w1.heap.size w.heap.size (List.replicate k false) ∧ Below w.heap.size w (w1.alloc (.cells #[.slice (some ⟨w.heap.size, 0, none⟩) k k] 37)) := by
  refine ⟨⟨?_, ?_, by omega, by simpa using hk⟩, hb.alloc hb.size _⟩
  · have := RowAt.new w1 #[.slice (some ⟨w.heap.size, 0, none⟩) k k] 37
    simpa using this
  · show RowAt _ _ _ _
    have := hr.alloc (.cells #[.slice (some ⟨w.heap.size, 0, none⟩) k k] 37)
    simpa using this

set_option maxHeartbeats 400000 in
theorem rnew (n : Int) (k : Nat) (w : World) (hk : n < 0 ∧ k = 0 ∨ n = k ∧ k ≤ 1024 ∨ 1024 < n ∧ k = 1024) :
    Calls Tryd.prog 11 #[.int .i64 n] w fun e w' => (∃ rp br, e = .returned (.pointer (some ⟨rp, 0, none⟩)) ∧ w.heap.size ≤ rp ∧ w.heap.size ≤ br ∧ RefIs w' rp br (List.replicate k false)) ∧ Below w.heap.size w w' := by
  have h2 : k ≤ 1024 := by omega
  have HF : Hid _ := fun w1 hr hz hb => ref_made w w1 k (by omega) hr hz hb
  rcases hk with ⟨h1, h3⟩ | ⟨rfl, -⟩ | ⟨h1, h3⟩
  · have HK : Hid (k = 0) := h3
    clear h3
    go_enter Tryd.func11, Tryd.ntmps11
    go_wp2_with (at_make; refine wpList_make_row _ rfl (.tmp 5) (.tmp 5) 35 rfl 4 (.bool false) 1 Tryd.underlying35 info4 rfl .i64 .i64 _ _ k rfl rfl (by have := HK.out; omega) (by have := HK.out; omega) (by omega) (by omega) ?_; intro w1 hr hz hb)
    go_ret
    obtain ⟨f1, f2⟩ := HF.out w1 hr hz hb
    rw [hz] at f1
    exact ⟨⟨_, w.heap.size, rfl, by omega, by omega, f1⟩, f2⟩
  · go_enter Tryd.func11, Tryd.ntmps11
    go_wp2_with (at_make; refine wpList_make_row _ rfl (.tmp 5) (.tmp 5) 35 rfl 4 (.bool false) 1 Tryd.underlying35 info4 rfl .i64 .i64 _ _ k rfl rfl (by omega) (by omega) (by omega) (by omega) ?_; intro w1 hr hz hb)
    go_ret
    obtain ⟨f1, f2⟩ := HF.out w1 hr hz hb
    rw [hz] at f1
    exact ⟨⟨_, w.heap.size, rfl, by omega, by omega, f1⟩, f2⟩
  · have HK : Hid (k = 1024) := h3
    clear h3
    go_enter Tryd.func11, Tryd.ntmps11
    go_wp2_with (at_make; refine wpList_make_row _ rfl (.tmp 5) (.tmp 5) 35 rfl 4 (.bool false) 1 Tryd.underlying35 info4 rfl .i64 .i64 _ _ k rfl rfl (by have := HK.out; omega) (by have := HK.out; omega) (by omega) (by omega) ?_; intro w1 hr hz hb)
    go_ret
    obtain ⟨f1, f2⟩ := HF.out w1 hr hz hb
    rw [hz] at f1
    exact ⟨⟨_, w.heap.size, rfl, by omega, by omega, f1⟩, f2⟩

set_option maxHeartbeats 400000 in
theorem rfree (rp br : Nat) (bs : List Bool) (w : World) (h : RefIs w rp br bs) :
    Calls Tryd.prog 19 #[.pointer (some ⟨rp, 0, none⟩)] w fun e w' => e = .returned (.int .i64 (bs.count false)) ∧ w' = w := by
  have hc0 := h.cellp
  have hl := h.le
  go_enter Tryd.func19, Tryd.ntmps19
  go_wp2
  go_loop [3, 4] (fun x i => ∃ k : Nat, k ≤ bs.length ∧ i = .int .i64 k ∧ ∃ S : Nat, x = .int .i64 S ∧ S ≤ k ∧ Hid (S = (bs.take k).count false)) (fun _ i => bs.length - (intOf i).toNat)
  case atStart => exact ⟨0, by omega, rfl, 0, rfl, by omega, rfl⟩
  case round =>
    obtain ⟨k, hk, rfl, S, rfl, hS, HS⟩ := hrel
    by_cases hlt : k < bs.length
    · have hc := h.l.cell k hlt
      have HT : Hid ((bs.take (k + 1)).count false = (bs.take k).count false + (if bs[k] then 0 else 1)) := by
        show _ = _
        rw [take_snoc bs k hlt, List.count_append]
        cases bs[k] <;> simp
      cases hb : bs[k]
      · rw [hb] at hc HT
        clear hb
        go_wp2
        go_round
        case rel => exact ⟨k + 1, by omega, by go_num, S + 1, by go_num, by omega, by show S + 1 = _; rw [HT.out, ← HS.out]; simp⟩
        case measure => simp [intOf]; omega
      · rw [hb] at hc HT
        clear hb
        go_wp2
        go_round
        case rel => exact ⟨k + 1, by omega, by go_num, S, rfl, by omega, by show S = _; rw [HT.out, ← HS.out]; simp⟩
        case measure => simp [intOf]; omega
    · obtain rfl : k = bs.length := by omega
      have HZ : Hid (S = bs.count false) := by have := HS.out; rw [List.take_length] at this; exact this
      go_wp2
      go_ret
      exact ⟨by rw [← HZ.out]; rfl, rfl⟩

set_option maxHeartbeats 400000 in
theorem rlevel (rp br : Nat) (bs : List Bool) (low high : Int) (w : World) (h : RefIs w rp br bs) :
    Calls Tryd.prog 22 #[.pointer (some ⟨rp, 0, none⟩), .int .i64 low, .int .i64 high] w fun e w' => e = .returned (.int .i64 (levelOf (bs.count false) low high)) ∧ w' = w := by
  obtain ⟨F, hF⟩ : ∃ F, F = bs.count false := ⟨_, rfl⟩
  have HA : Hid (∀ w, RefIs w rp br bs → Calls Tryd.prog 19 #[.pointer (some ⟨rp, 0, none⟩)] w fun e w' => e = .returned (.int .i64 F) ∧ w' = w) := fun w h => by rw [hF]; exact rfree _ _ bs w h
  rw [← hF]
  clear hF
  unfold levelOf
  by_cases h1 : (F : Int) < low
  · rw [if_pos h1]
    go_enter Tryd.func22, Tryd.ntmps22
    go_wp2_with (go_at_call 19; refine (HA.out _ h).mono ?_; rintro e w' ⟨rfl, rfl⟩)
    go_ret
    exact ⟨rfl, rfl⟩
  · rw [if_neg h1]
    by_cases h2 : (F : Int) < high
    · rw [if_pos h2]
      go_enter Tryd.func22, Tryd.ntmps22
      go_wp2_with (go_at_call 19; refine (HA.out _ h).mono ?_; rintro e w' ⟨rfl, rfl⟩)
      go_ret
      exact ⟨rfl, rfl⟩
    · rw [if_neg h2]
      go_enter Tryd.func22, Tryd.ntmps22
      go_wp2_with (go_at_call 19; refine (HA.out _ h).mono ?_; rintro e w' ⟨rfl, rfl⟩)
      go_ret
      exact ⟨rfl, rfl⟩

set_option maxHeartbeats 400000 in
theorem rgive (rp br : Nat) (bs : List Bool) (i : Int) (w : World) (h : RefIs w rp br bs) :
    Calls Tryd.prog 15 #[.pointer (some ⟨rp, 0, none⟩), .int .i64 i] w fun e w' => e = .returned (.int .i64 (giveOf bs i).1) ∧ RefIs w' rp br (giveOf bs i).2 ∧ But br w w' := by
  have hc := h.cellp
  have hle := h.le
  by_cases hi : 0 ≤ i ∧ i < bs.length
  · obtain ⟨n, rfl⟩ := Int.eq_ofNat_of_zero_le hi.1
    have hn : n < bs.length := by omega
    have hcn := h.l.cell n hn
    have hfz : w.frozen? ⟨br, n, none⟩ = false := RowAt.frozen h.l n
    have hbg : bget bs n = bs[n] := by rw [bget_in]; simp [hn]
    cases hb : bs[n]
    · have e1 : giveOf bs n = (2, bs) := by unfold giveOf; rw [if_pos hi, hbg, hb]; rfl
      rw [e1]
      rw [hb] at hcn
      clear e1 hbg hb hi
      go_enter Tryd.func15, Tryd.ntmps15
      go_wp2_with fail
      go_ret
      exact ⟨rfl, h, But.refl _ _⟩
    · have e1 : giveOf bs n = (0, bs.set n false) := by unfold giveOf; rw [if_pos hi, hbg, hb]; simp [bset]
      rw [e1]
      rw [hb] at hcn
      clear e1 hbg hb hi
      go_enter Tryd.func15, Tryd.ntmps15
      go_wp2_with fail
      go_ret
      exact ⟨rfl, h.set n false, But.setCell _ _ _ _⟩
  · have e1 : giveOf bs i = (1, bs) := by unfold giveOf; rw [if_neg hi]
    rw [e1]
    by_cases h0 : i < 0
    · clear hi e1
      go_enter Tryd.func15, Tryd.ntmps15
      go_wp2_with fail
      go_ret
      exact ⟨rfl, h, But.refl _ _⟩
    · have h1 : (bs.length : Int) ≤ i := by omega
      clear hi e1
      go_enter Tryd.func15, Tryd.ntmps15
      go_wp2_with fail
      go_ret
      exact ⟨rfl, h, But.refl _ _⟩

end Go.Proofs.YtijoocoacaogoaaDoor
