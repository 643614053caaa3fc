/-
  Contracts of the document's own pool: Run, Take.
-/
import Derived.Test.YtijoocoacaogoaaDoorP3
namespace Go.Proofs.YtijoocoacaogoaaDoor
open Go.RowKit

theorem room_end {bs : List Bool} {n f : Nat} (h : NoRoom bs n f) (hf : bs.length < f + n) : IsRoom bs n (-1) :=
  Or.inl ⟨rfl, fun j hj => h j (by omega) hj⟩
theorem room_here {bs : List Bool} {n f : Nat} (h : NoRoom bs n f) (hf : f + n ≤ bs.length) (ha : ∀ t, f ≤ t → t < f + n → bs.getD t false = false) : IsRoom bs n f :=
  Or.inr ⟨f, rfl, hf, ha, fun i hi => h i hi (by omega)⟩
theorem room_next {bs : List Bool} {n f : Nat} (h : NoRoom bs n f) (ha : ∃ t, f ≤ t ∧ t < f + n ∧ bs.getD t false = true) : NoRoom bs n (f + 1) := by
  intro j hj hl
  by_cases e : j = f
  · subst e; exact ha
  · exact h j (by omega) hl

def FreeTo (bs : List Bool) (i k : Nat) : Prop := ∀ t, i ≤ t → t < k → bs.getD t false = false
def HitTo (bs : List Bool) (i k : Nat) : Prop := ∃ t, i ≤ t ∧ t < k ∧ bs.getD t false = true
theorem FreeTo.step {bs : List Bool} {i k : Nat} (h : FreeTo bs i k) (hb : bs.getD k false = false) : FreeTo bs i (k + 1) := by
  intro t h1 h2
  by_cases e : t = k
  · subst e; exact hb
  · exact h t h1 (by omega)

def RunRes (bs : List Bool) (m : Nat) (r e : Int) (l : List Bool) : Prop := (r = -1 ∧ e = 3 ∧ l = bs ∧ IsRoom bs m (-1)) ∨ ∃ j : Nat, r = j ∧ e = 0 ∧ l = fill bs j m ∧ IsRoom bs m j
theorem RunRes.eq {bs : List Bool} {m : Nat} {r e : Int} {l : List Bool} (h1 : 1 ≤ m) (h : RunRes bs m r e l) : runOf bs m = (r, e, l) := by
  rcases h with ⟨rfl, rfl, rfl, h⟩ | ⟨j, rfl, rfl, rfl, h⟩
  · exact runOf_full h1 h
  · exact runOf_ok h1 h

set_option maxHeartbeats 2000000 in
theorem rrun_in (rp br : Nat) (bs : List Bool) (m : Nat) (w : World) (h : RefIs w rp br bs) (h1 : 1 ≤ m) (hm : m ≤ 9223372036854775807) :
    Calls Tryd.prog 17 #[.pointer (some ⟨rp, 0, none⟩), .int .i64 m] w fun e w' => (∃ (r x : Int), e = .returned (.tuple #[.int .i64 r, .int .i64 x]) ∧ ∃ l : List Bool, RefIs w' rp br l ∧ RunRes bs m r x l) ∧ But br w w' := by
  have hc0 := h.cellp
  have hl := h.le
  go_enter Tryd.func17, Tryd.ntmps17
  go_wp2
  go_loop [6] (fun iv => ∃ i : Nat, i ≤ bs.length + 1 ∧ iv = .int .i64 i ∧ Hid (NoRoom bs m i)) (fun iv => bs.length + 1 - (intOf iv).toNat)
  case atStart => exact ⟨0, by omega, rfl, NoRoom.zero bs m⟩
  case round =>
    obtain ⟨i, hi, rfl, HN⟩ := hrel
    by_cases hc : (i : Int) ≤ (bs.length : Int) - (m : Int)
    · go_wp2
      go_loop [7, 8] (fun fv kv => ∃ k : Nat, i ≤ k ∧ k ≤ i + m ∧ kv = .int .i64 k ∧ ∃ fr, fv = .bool fr ∧ Hid (fr = true → FreeTo bs i k) ∧ Hid (fr = false → HitTo bs i k)) (fun _ kv => i + m - (intOf kv).toNat)
      case atStart => exact ⟨i, by omega, by omega, rfl, true, rfl, fun _ t a b => by omega, fun e => by cases e⟩
      case round =>
        obtain ⟨k, hk1, hk2, rfl, fr, rfl, HF, HX⟩ := hrel
        cases fr
        · have HX' : Hid (HitTo bs i k) := HX.out rfl
          clear HF HX
          have HN' : Hid (NoRoom bs m (i + 1)) := room_next HN.out (by obtain ⟨t, t1, t2, t3⟩ := HX'.out; exact ⟨t, t1, by omega, t3⟩)
          clear HN HX'
          by_cases hk : k < i + m
          · go_wp2
            go_round
            case rel => exact ⟨i + 1, by omega, by go_num, HN'⟩
            case measure => simp [intOf]; omega
          · go_wp2
            go_round
            case rel => exact ⟨i + 1, by omega, by go_num, HN'⟩
            case measure => simp [intOf]; omega
        · have HF' : Hid (FreeTo bs i k) := HF.out rfl
          clear HF HX
          by_cases hk : k < i + m
          · have hkl : k < bs.length := by omega
            have hck := h.l.cell k hkl
            have HE : Hid (bs.getD k false = bs[k]) := by show _ = _; simp [hkl]
            cases hb : bs[k]
            · rw [hb] at hck HE
              clear hb
              go_wp2
              go_round
              case rel => exact ⟨k + 1, by omega, by omega, by go_num, true, rfl, fun _ => HF'.out.step HE.out, fun e => by cases e⟩
              case measure => simp [intOf]; omega
            · rw [hb] at hck HE
              clear hb
              go_wp2
              go_round
              case rel => exact ⟨k + 1, by omega, by omega, by go_num, false, rfl, (fun e => by cases e), fun _ => ⟨k, by omega, by omega, HE.out⟩⟩
              case measure => simp [intOf]; omega
          · obtain rfl : k = i + m := by omega
            have HR : Hid (IsRoom bs m i) := room_here HN.out (by omega) HF'.out
            clear HN HF' hk
            go_wp2
            go_loopw [9] (fun kv wr => ∃ k : Nat, k ≤ m ∧ kv = .int .i64 ((i : Int) + k) ∧ RefIs wr rp br (fill bs i k) ∧ But br w wr) (fun kv _ => i + m - (intOf kv).toNat)
            case atStart => exact ⟨0, by omega, by go_num, h, But.refl _ _⟩
            case round =>
              obtain ⟨k, hk, rfl, hp, hb⟩ := hrel
              have hc1 := hp.cellp
              rw [fill_len] at hc1
              by_cases hlt : k < m
              · have hfz : wr.frozen? ⟨br, i + k, none⟩ = false := RowAt.frozen hp.l _
                have hck := hp.l.cell (i + k) (by rw [fill_len]; omega)
                have hp2 : RefIs (wr.setCell ⟨br, i + k, none⟩ (.bool true)) rp br (fill bs i (k + 1)) := hp.set (i + k) true
                have hb2 : But br w (wr.setCell ⟨br, i + k, none⟩ (.bool true)) := hb.trans (But.setCell _ _ _ _)
                have hik : (i : Int) + (k : Int) = ((i + k : Nat) : Int) := by omega
                rw [hik]
                clear hp hb hik
                go_wp2
                go_roundw
                case rel => exact ⟨k + 1, by omega, by go_num, hp2, hb2⟩
                case measure => simp [intOf]; omega
              · obtain rfl : k = m := by omega
                go_wp2
                go_ret2
                exact ⟨⟨_, _, rfl, _, hp, Or.inr ⟨i, rfl, rfl, rfl, HR.out⟩⟩, hb⟩
    · have HX : Hid (IsRoom bs m (-1)) := room_end HN.out (by omega)
      clear HN
      go_wp2
      go_ret2
      exact ⟨⟨-1, 3, rfl, bs, h, Or.inl ⟨rfl, rfl, rfl, HX.out⟩⟩, But.refl _ _⟩

theorem rrun (rp br : Nat) (bs : List Bool) (n : Int) (w : World) (h : RefIs w rp br bs) (hn : n ≤ 9223372036854775807) :
    Calls Tryd.prog 17 #[.pointer (some ⟨rp, 0, none⟩), .int .i64 n] w fun e w' => e = .returned (.tuple #[.int .i64 (runOf bs n).1, .int .i64 (runOf bs n).2.1]) ∧ RefIs w' rp br (runOf bs n).2.2 ∧ But br w w' := by
  by_cases h1 : n < 1
  · rw [runOf_arg h1]
    go_enter Tryd.func17, Tryd.ntmps17
    go_wp2_with fail
    go_ret2
    exact ⟨rfl, h, But.refl _ _⟩
  · obtain ⟨m, rfl⟩ := Int.eq_ofNat_of_zero_le (show 0 ≤ n by omega)
    refine (rrun_in rp br bs m w h (by omega) (by omega)).mono ?_
    rintro e w' ⟨⟨r, x, rfl, l, h2, h3⟩, h4⟩
    rw [h3.eq (by omega)]
    exact ⟨rfl, h2, h4⟩

theorem rtake (rp br : Nat) (bs : List Bool) (w : World) (h : RefIs w rp br bs) :
    Calls Tryd.prog 13 #[.pointer (some ⟨rp, 0, none⟩)] w fun e w' => e = .returned (.tuple #[.int .i64 (runOf bs 1).1, .int .i64 (runOf bs 1).2.1]) ∧ RefIs w' rp br (runOf bs 1).2.2 ∧ But br w w' := by
  obtain ⟨R, hR⟩ : ∃ R, R = runOf bs 1 := ⟨_, rfl⟩
  have HA := (show Hid (∀ w, RefIs w rp br bs → Calls Tryd.prog 17 #[.pointer (some ⟨rp, 0, none⟩), .int .i64 1] w fun e w' => e = .returned (.tuple #[.int .i64 R.1, .int .i64 R.2.1]) ∧ RefIs w' rp br R.2.2 ∧ But br w w') from fun w h => by rw [hR]; exact rrun _ _ bs 1 w h (by decide))
  rw [← hR]
  clear hR
  go_enter Tryd.func13, Tryd.ntmps13
  go_wp2_with (go_at_call 17; refine (HA.out _ h).mono ?_; rintro e w' ⟨rfl, h1, h2⟩)
  go_ret2
  exact ⟨rfl, h1, h2⟩

end Go.Proofs.YtijoocoacaogoaaDoor
