/-
  Contracts of the document's own bits (a row of bools): New, Set, Get, Count, Next; and of bits.Map's Next from below nought.
-/
import Derived.Test.YtnhlafifmiiliaaDoorActs
namespace Go.Proofs.YtnhlafifmiiliaaDoor
open Go.RowKit

def BoolsAt (w : World) (br : Nat) (bs : List Bool) : Prop := RowAt w br 4 (bs.map Value.bool)
theorem BoolsAt.drewN {w : World} {br : Nat} {bs : List Bool} (h : BoolsAt w br bs) (n : Nat) : BoolsAt (w.drewN n) br bs := RowAt.drewN h n
theorem BoolsAt.but {b : Nat} {w w' : World} {br : Nat} {bs : List Bool} (h : BoolsAt w br bs) (hb : But b w w') (hne : br ≠ b) : BoolsAt w' br bs := RowAt.but h hb hne
theorem BoolsAt.cell {w : World} {br : Nat} {bs : List Bool} (h : BoolsAt w br bs) (i : Nat) (hi : i < bs.length) : w.cell? ⟨br, i, none⟩ = some (.bool bs[i]) := by
  rw [RowAt.cell h]; simp [hi]

theorem info4 : (Tryd.prog.info? 4).map (fun i => (i.zero, i.size, i.bytes)) = some (some (.bool false), 1, 1) := by kernel_rfl

set_option maxHeartbeats 400000 in
theorem refNew (n : Int) (k : Nat) (w : World) (hk : n < 0 ∧ k = 0 ∨ n = k ∧ k ≤ 65536 ∨ 65536 < n ∧ k = 65536) :
    Calls Tryd.prog 13 #[.int .i64 n] w fun e w' => e = .returned (.slice (some ⟨w.heap.size, 0, none⟩) k k) ∧ BoolsAt w' w.heap.size (List.replicate k false) ∧ Below w.heap.size w w' ∧ w'.heap.size = w.heap.size + 1 := by
  have h2 : k ≤ 65536 := by omega
  rcases hk with ⟨h1, h3⟩ | ⟨rfl, -⟩ | ⟨h1, h3⟩
  · have HK : Hid (k = 0) := h3
    clear h3
    go_enter Tryd.func13, Tryd.ntmps13
    go_wp2_with (at_make; refine wpList_make_row _ rfl (.tmp 5) (.tmp 5) 26 rfl 4 (.bool false) 1 Tryd.underlying26 info4 rfl .i64 .i64 _ _ k rfl rfl (by have := HK.out; omega) (by have := HK.out; omega) (by omega) (by omega) ?_; intro w1 hr hz hb)
    go_ret
    exact ⟨rfl, by unfold BoolsAt; simpa using hr, hb, hz⟩
  · go_enter Tryd.func13, Tryd.ntmps13
    go_wp2_with (at_make; refine wpList_make_row _ rfl (.tmp 5) (.tmp 5) 26 rfl 4 (.bool false) 1 Tryd.underlying26 info4 rfl .i64 .i64 _ _ k rfl rfl (by omega) (by omega) (by omega) (by omega) ?_; intro w1 hr hz hb)
    go_ret
    exact ⟨rfl, by unfold BoolsAt; simpa using hr, hb, hz⟩
  · have HK : Hid (k = 65536) := h3
    clear h3
    go_enter Tryd.func13, Tryd.ntmps13
    go_wp2_with (at_make; refine wpList_make_row _ rfl (.tmp 5) (.tmp 5) 26 rfl 4 (.bool false) 1 Tryd.underlying26 info4 rfl .i64 .i64 _ _ k rfl rfl (by have := HK.out; omega) (by have := HK.out; omega) (by omega) (by omega) ?_; intro w1 hr hz hb)
    go_ret
    exact ⟨rfl, by unfold BoolsAt; simpa using hr, hb, hz⟩

set_option maxHeartbeats 400000 in
theorem refGet (br : Nat) (bs : List Bool) (i : Int) (w : World) (hr : BoolsAt w br bs) :
    Calls Tryd.prog 18 #[.slice (some ⟨br, 0, none⟩) bs.length bs.length, .int .i64 i] w fun e w' => e = .returned (.bool (bget bs i)) ∧ w' = w := by
  by_cases hn : 0 ≤ i ∧ i < bs.length
  · obtain ⟨n, rfl⟩ := Int.eq_ofNat_of_zero_le hn.1
    have hnl : n < bs.length := by omega
    have hc := hr.cell n hnl
    have e : bget bs n = bs[n] := by rw [bget_in]; simp [hnl]
    rw [e]
    have hd : decide ((n : Int) < (bs.length : Int)) = true := by simp; omega
    clear hn e
    go_enter Tryd.func18, Tryd.ntmps18
    go_wp2
    go_ret
    exact ⟨rfl, rfl⟩
  · rw [bget_out hn]
    by_cases h0 : 0 ≤ i
    · have hd : decide (i < (bs.length : Int)) = false := by simp; omega
      clear hn
      go_enter Tryd.func18, Tryd.ntmps18
      go_wp2
      go_ret
      exact ⟨rfl, rfl⟩
    · have hd : decide (0 ≤ i) = false := by simp; omega
      clear hn
      go_enter Tryd.func18, Tryd.ntmps18
      go_wp2
      go_ret
      exact ⟨rfl, rfl⟩

set_option maxHeartbeats 400000 in
theorem refSet (br : Nat) (bs : List Bool) (i : Int) (on : Bool) (w : World) (hr : BoolsAt w br bs) :
    Calls Tryd.prog 16 #[.slice (some ⟨br, 0, none⟩) bs.length bs.length, .int .i64 i, .bool on] w fun e w' => e = .returned (.bool (turned bs i on)) ∧ BoolsAt w' br (bset bs i on) ∧ But br w w' := by
  by_cases hn : 0 ≤ i ∧ i < bs.length
  · obtain ⟨n, rfl⟩ := Int.eq_ofNat_of_zero_le hn.1
    have hnl : n < bs.length := by omega
    have hc := hr.cell n hnl
    have hfz := RowAt.frozen hr n
    have e0 : bset bs n on = bs.set n on := by simp [bset]
    have et : turned bs n on = (bs[n] != on) := by unfold turned; rw [decide_eq_true hn, bget_in]; simp [hnl]
    rw [e0, et]
    have hd1 : decide ((n : Int) < 0) = false := by simp
    have hd2 : decide ((bs.length : Int) ≤ (n : Int)) = false := by simp; omega
    clear hn e0 et
    by_cases hon : bs[n] = on
    · have e1 : bs.set n on = bs := by
        rw [← hon]
        exact List.set_getElem_self hnl
      rw [e1, hon]
      have hq : (bs[n] == on) = true := by simp [hon]
      have hx : (on != on) = false := by simp
      rw [hx]
      clear hon e1 hx
      go_enter Tryd.func16, Tryd.ntmps16
      go_wp2
      go_ret
      exact ⟨rfl, hr, But.refl _ _⟩
    · have hq : (bs[n] == on) = false := by simp [hon]
      have hx : (bs[n] != on) = true := by simp [hon]
      rw [hx]
      have HS : Hid (BoolsAt (w.setCell ⟨br, n, none⟩ (.bool on)) br (bs.set n on)) := by
        show RowAt _ _ _ _
        rw [List.map_set]
        exact RowAt.set hr n (.bool on)
      clear hon hx
      go_enter Tryd.func16, Tryd.ntmps16
      go_wp2
      go_ret
      exact ⟨rfl, HS.out, But.setCell _ _ _ _⟩
  · have e1 : bset bs i on = bs := by
      unfold bset
      split
      · exact List.set_eq_of_length_le (by omega)
      · rfl
    have et : turned bs i on = false := by unfold turned; rw [decide_eq_false hn]; rfl
    rw [e1, et]
    by_cases h0 : i < 0
    · have hd : decide (i < 0) = true := by simp; omega
      clear hn e1 et
      go_enter Tryd.func16, Tryd.ntmps16
      go_wp2
      go_ret
      exact ⟨rfl, hr, But.refl _ _⟩
    · have hd1 : decide (i < 0) = false := by simp; omega
      have hd : decide ((bs.length : Int) ≤ i) = true := by simp; omega
      clear hn e1 et
      go_enter Tryd.func16, Tryd.ntmps16
      go_wp2
      go_ret
      exact ⟨rfl, hr, But.refl _ _⟩

set_option maxHeartbeats 400000 in
theorem refCount (br : Nat) (bs : List Bool) (w : World) (hl : bs.length ≤ 65536) (hr : BoolsAt w br bs) :
    Calls Tryd.prog 20 #[.slice (some ⟨br, 0, none⟩) bs.length bs.length] w fun e w' => e = .returned (.int .i64 (bs.count true)) ∧ w' = w := by
  go_enter Tryd.func20, Tryd.ntmps20
  go_wp2
  go_loop [3, 4] (fun x i => ∃ k : Nat, k ≤ bs.length ∧ i = .int .i64 k ∧ ∃ S : Nat, x = .int .i64 S ∧ S ≤ k ∧ Hid (S = (bs.take k).count true)) (fun _ i => bs.length - (intOf i).toNat)
  case atStart => exact ⟨0, by omega, rfl, 0, rfl, by omega, rfl⟩
  case round =>
    obtain ⟨k, hk, rfl, S, rfl, hS, HS⟩ := hrel
    by_cases hlt : k < bs.length
    · have hc := hr.cell k hlt
      have HT : Hid ((bs.take (k + 1)).count true = (bs.take k).count true + (if bs[k] then 1 else 0)) := by
        show _ = _
        rw [take_snoc bs k hlt, List.count_append]
        cases bs[k] <;> simp
      cases hb : bs[k]
      · rw [hb] at hc HT
        clear hb
        go_wp2
        go_round
        case rel => exact ⟨k + 1, by omega, by go_num, S, rfl, by omega, by show S = _; rw [HT.out, ← HS.out]; simp⟩
        case measure => simp [intOf]; omega
      · rw [hb] at hc HT
        clear hb
        go_wp2
        go_round
        case rel => exact ⟨k + 1, by omega, by go_num, S + 1, by go_num, by omega, by show S + 1 = _; rw [HT.out, ← HS.out]; simp⟩
        case measure => simp [intOf]; omega
    · obtain rfl : k = bs.length := by omega
      have HZ : Hid (S = bs.count true) := by have := HS.out; rw [List.take_length] at this; exact this
      go_wp2
      go_ret
      exact ⟨by rw [← HZ.out]; rfl, rfl⟩

set_option maxHeartbeats 400000 in
theorem refNext (br : Nat) (bs : List Bool) (g : Int) (f : Nat) (on : Bool) (w : World) (hl : bs.length ≤ 65536) (hr : BoolsAt w br bs) (hg : g < 0 ∧ f = 0 ∨ g = f) (hgl : g ≤ 9223372036854775807) :
    Calls Tryd.prog 22 #[.slice (some ⟨br, 0, none⟩) bs.length bs.length, .int .i64 g, .bool on] w fun e w' => (∃ r, e = .returned (.int .i64 r) ∧ IsNext bs f on r) ∧ w' = w := by
  have HG : Hid (g < 0 ∧ f = 0 ∨ g = f) := hg
  rcases hg with ⟨h1, h2⟩ | rfl
  · clear h2
    go_enter Tryd.func22, Tryd.ntmps22
    go_wp2
    go_loop [7] (fun i => ∃ k : Nat, f ≤ k ∧ (k ≤ bs.length ∨ k = f) ∧ i = .int .i64 k ∧ Hid (∀ j, f ≤ j → j < k → bs.getD j false ≠ on)) (fun i => bs.length - (intOf i).toNat)
    case atStart => exact ⟨0, by have := HG.out; omega, Or.inl (by omega), rfl, fun j h1 h2 => by omega⟩
    case round =>
      obtain ⟨k, hfk, hk, rfl, HN⟩ := hrel
      by_cases hlt : k < bs.length
      · have hc := hr.cell k hlt
        have he : bs.getD k false = bs[k] := by simp [hlt]
        have HE := (show Hid _ from he)
        clear he
        by_cases hon : bs[k] = on
        · have hq : (bs[k] == on) = true := by simp [hon]
          have HO : Hid (bs[k] = on) := hon
          clear hon
          go_wp2
          go_ret
          exact ⟨⟨k, rfl, Or.inr ⟨k, rfl, hfk, hlt, by rw [HE.out]; exact HO.out, HN.out⟩⟩, rfl⟩
        · have hq : (bs[k] == on) = false := by simp [hon]
          have HO : Hid (¬ bs[k] = on) := hon
          clear hon
          go_wp2
          go_round
          case rel =>
            refine ⟨k + 1, by omega, Or.inl (by omega), by go_num, fun j h1 h2 => ?_⟩
            by_cases e : j = k
            · subst e; rw [HE.out]; exact HO.out
            · exact HN.out j h1 (by omega)
          case measure => simp [intOf]; omega
      · go_wp2
        go_ret
        exact ⟨⟨-1, rfl, Or.inl ⟨rfl, fun j h1 h2 => HN.out j h1 (by omega)⟩⟩, rfl⟩
  · clear HG
    go_enter Tryd.func22, Tryd.ntmps22
    go_wp2
    go_loop [7] (fun i => ∃ k : Nat, f ≤ k ∧ (k ≤ bs.length ∨ k = f) ∧ i = .int .i64 k ∧ Hid (∀ j, f ≤ j → j < k → bs.getD j false ≠ on)) (fun i => bs.length - (intOf i).toNat)
    case atStart => exact ⟨f, by omega, Or.inr rfl, rfl, fun j h1 h2 => by omega⟩
    case round =>
      obtain ⟨k, hfk, hk, rfl, HN⟩ := hrel
      by_cases hlt : k < bs.length
      · have hc := hr.cell k hlt
        have he : bs.getD k false = bs[k] := by simp [hlt]
        have HE := (show Hid _ from he)
        clear he
        by_cases hon : bs[k] = on
        · have hq : (bs[k] == on) = true := by simp [hon]
          have HO : Hid (bs[k] = on) := hon
          clear hon
          go_wp2
          go_ret
          exact ⟨⟨k, rfl, Or.inr ⟨k, rfl, hfk, hlt, by rw [HE.out]; exact HO.out, HN.out⟩⟩, rfl⟩
        · have hq : (bs[k] == on) = false := by simp [hon]
          have HO : Hid (¬ bs[k] = on) := hon
          clear hon
          go_wp2
          go_round
          case rel =>
            refine ⟨k + 1, by omega, Or.inl (by omega), by go_num, fun j h1 h2 => ?_⟩
            by_cases e : j = k
            · subst e; rw [HE.out]; exact HO.out
            · exact HN.out j h1 (by omega)
          case measure => simp [intOf]; omega
      · go_wp2
        go_ret
        exact ⟨⟨-1, rfl, Or.inl ⟨rfl, fun j h1 h2 => HN.out j h1 (by omega)⟩⟩, rfl⟩

end Go.Proofs.YtnhlafifmiiliaaDoor
