/-
  Contracts of bits.Map's Count and Next.
-/
import Derived.Test.YtijoocoacaogoaaDoorW4
namespace Go.Proofs.YtijoocoacaogoaaDoor
open Go.RowKit

/-! ### how many are on -/
def cu (bs : List Bool) : Nat → Nat
  | 0 => 0
  | m + 1 => cu bs m + (bs.getD m false).toNat

theorem pop_top (j x : Nat) : pop (j + 1) x = pop j x + (x.testBit j).toNat := by
  rw [pop_add]
  show pop j x + (x / 2 ^ j % 2 + 0) = _
  rw [Nat.testBit_eq_decide_div_mod_eq]
  rcases Nat.mod_two_eq_zero_or_one (x / 2 ^ j) with h | h <;> simp [h]

theorem cu_pop (bs : List Bool) (a x : Nat) : ∀ j, (∀ i, i < j → x.testBit i = bs.getD (a + i) false) → cu bs (a + j) = cu bs a + pop j x := by
  intro j
  induction j with
  | zero => intro _; simp [pop]
  | succ j ih =>
    intro h
    rw [← Nat.add_assoc, pop_top]
    show cu bs (a + j) + (bs.getD (a + j) false).toNat = _
    rw [ih (fun i hi => h i (by omega)), h j (by omega)]
    omega

theorem cu_count (bs : List Bool) : ∀ m, cu bs m = (bs.take m).count true := by
  intro m
  induction m with
  | zero => simp [cu]
  | succ m ih =>
    show cu bs m + (bs.getD m false).toNat = _
    rw [ih]
    by_cases h : m < bs.length
    · rw [take_snoc bs m h, List.count_append]
      have : bs.getD m false = bs[m] := by simp [h]
      rw [this]
      cases bs[m] <;> simp
    · rw [List.take_of_length_le (by omega), List.take_of_length_le (by omega)]
      have : bs.getD m false = false := by simp [Nat.le_of_not_lt h]
      rw [this]; simp

theorem MapIs.count {w : World} {bm bw : Nat} {bs : List Bool} {ws : List Nat} (hm : MapIs w bm bw bs ws) : ∀ k, k ≤ ws.length → ((ws.take k).map popw).sum = cu bs (64 * k) := by
  intro k
  induction k with
  | zero => simp [cu]
  | succ k ih =>
    intro hk
    have h : k < ws.length := by omega
    rw [take_snoc ws k h, List.map_append, List.sum_append, ih (by omega)]
    rw [show 64 * (k + 1) = 64 * k + 64 from by omega, cu_pop bs (64 * k) ws[k] 64, ← popw_eq]
    · simp
    · intro i hi
      have := hm.bit (64 * k + i) (by omega)
      rw [show (64 * k + i) / 64 = k from by omega, show (64 * k + i) % 64 = i from by omega] at this
      simpa [h] using this
theorem MapIs.count_all {w : World} {bm bw : Nat} {bs : List Bool} {ws : List Nat} (hm : MapIs w bm bw bs ws) : (ws.map popw).sum = bs.count true := by
  have := hm.count ws.length (Nat.le_refl _)
  rw [List.take_length] at this
  rw [this, cu_count, List.take_of_length_le]
  have := hm.len
  omega

theorem pops_le (ws : List Nat) : (ws.map popw).sum ≤ 64 * ws.length := by
  induction ws with
  | nil => simp
  | cons a r ih => have := popw_le a; simp; omega

set_option maxHeartbeats 400000 in
theorem count_any (bm bw : Nat) (bs : List Bool) (ws : List Nat) (w : World) (hm : MapIs w bm bw bs ws) :
    Calls Tryd.prog 27 #[.pointer (some ⟨bm, 0, none⟩)] w fun e w' => e = .returned (.int .i64 (bs.count true)) ∧ w' = w := by
  have hle : ws.length ≤ 1024 := by have := hm.le; have := hm.len; omega
  have hc1 : w.cell? ⟨bm, 1, none⟩ = some (.slice (some ⟨bw, 0, none⟩) ws.length ws.length) := by rw [hm.m.cell]; rfl
  have HC : Hid ((ws.map popw).sum = bs.count true) := hm.count_all
  go_enter Tryd.func27, Tryd.ntmps27
  go_wp2
  go_loop [3, 10] (fun x i => ∃ k : Nat, k ≤ ws.length ∧ i = .int .i64 k ∧ ∃ S : Nat, x = .int .i64 S ∧ S ≤ 64 * k ∧ Hid (S = ((ws.take k).map popw).sum)) (fun _ i => ws.length - (intOf i).toNat)
  case atStart => exact ⟨0, by omega, rfl, 0, rfl, by omega, rfl⟩
  case round =>
    obtain ⟨k, hk, rfl, S, rfl, hS, HT⟩ := hrel
    by_cases hlt : k < ws.length
    · have hc2 : w.cell? ⟨bw, k, none⟩ = some (.int .u64 (ws[k] : Int)) := by rw [hm.r.cell]; simp [hlt]
      have hb := hm.lt k hlt
      obtain ⟨P, hP⟩ : ∃ P, P = popw ws[k] := ⟨_, rfl⟩
      have h2 : P ≤ 64 := by rw [hP]; exact popw_le ws[k]
      have HX : Hid (∀ w, Calls Tryd.prog 33 #[.int .u64 (ws[k] : Int)] w fun e w' => e = .returned (.int .i64 P) ∧ w' = w) := fun w => by rw [hP]; exact onesCount_any _ _ hb
      have HS : Hid (((ws.take (k + 1)).map popw).sum = S + P) := by
        show _ = _
        rw [HT.out, hP, take_snoc ws k hlt, List.map_append, List.sum_append]; simp
      clear hP
      go_wp2_with (go_at_call 33; refine (HX.out _).mono ?_; rintro e w' ⟨rfl, rfl⟩)
      go_round
      case rel => exact ⟨k + 1, by omega, by go_num, S + P, by go_num, by omega, HS.out.symm⟩
      case measure => simp [intOf]; omega
    · obtain rfl : k = ws.length := by omega
      have HZ : Hid (S = bs.count true) := by
        show _ = _
        rw [HT.out, ← HC.out, List.take_length]
      go_wp2
      go_ret
      exact ⟨by rw [← HZ.out]; rfl, rfl⟩

/-! ### the next one -/
def IsNext (bs : List Bool) (f : Nat) (on : Bool) (r : Int) : Prop :=
  (r = -1 ∧ ∀ j, f ≤ j → j < bs.length → bs.getD j false ≠ on) ∨
  (∃ j : Nat, r = j ∧ f ≤ j ∧ j < bs.length ∧ bs.getD j false = on ∧ ∀ i, f ≤ i → i < j → bs.getD i false ≠ on)
theorem IsNext.unique {bs : List Bool} {f : Nat} {on : Bool} {r s : Int} (h : IsNext bs f on r) (k : IsNext bs f on s) : r = s := by
  rcases h with ⟨rfl, h⟩ | ⟨i, rfl, h1, h2, h3, h4⟩ <;> rcases k with ⟨rfl, k⟩ | ⟨j, rfl, k1, k2, k3, k4⟩
  · rfl
  · exact absurd k3 (h j k1 k2)
  · exact absurd h3 (k i h1 h2)
  · rcases Nat.lt_trichotomy i j with hij | hij | hij
    · exact absurd h3 (k4 i h1 hij)
    · rw [hij]
    · exact absurd k3 (h4 j k1 hij)

theorem known_any (bm bw : Nat) (bs : List Bool) (ws : List Nat) (i : Int) (w : World) (hm : MapIs w bm bw bs ws) :
    Calls Tryd.prog 35 #[.pointer (some ⟨bm, 0, none⟩), .int .i64 i] w fun e w' => e = .returned (.int .i64 (if 0 ≤ i ∧ i < bs.length then i else -1)) ∧ w' = w := by
  by_cases hn : 0 ≤ i ∧ i < bs.length
  · have HH : Hid (∀ w, MapIs w bm bw bs ws → Calls Tryd.prog 30 #[.pointer (some ⟨bm, 0, none⟩), .int .i64 i] w fun e w' => e = .returned (.bool true) ∧ w' = w) := fun w hm => by
      refine (has_any bm bw bs ws i w hm).mono ?_
      rintro e w' ⟨rfl, rfl⟩
      exact ⟨by rw [decide_eq_true hn], rfl⟩
    rw [if_pos hn]
    clear hn
    go_enter Tryd.func35, Tryd.ntmps35
    go_wp2_with (go_at_call 30; refine (HH.out _ hm).mono ?_; rintro e w' ⟨rfl, rfl⟩)
    go_ret
    exact ⟨rfl, rfl⟩
  · have HH : Hid (∀ w, MapIs w bm bw bs ws → Calls Tryd.prog 30 #[.pointer (some ⟨bm, 0, none⟩), .int .i64 i] w fun e w' => e = .returned (.bool false) ∧ w' = w) := fun w hm => by
      refine (has_any bm bw bs ws i w hm).mono ?_
      rintro e w' ⟨rfl, rfl⟩
      exact ⟨by rw [decide_eq_false hn], rfl⟩
    rw [if_neg hn]
    clear hn
    go_enter Tryd.func35, Tryd.ntmps35
    go_wp2_with (go_at_call 30; refine (HH.out _ hm).mono ?_; rintro e w' ⟨rfl, rfl⟩)
    go_ret
    exact ⟨rfl, rfl⟩

def likeOf (x : Nat) (on : Bool) : Nat := if on then x else 18446744073709551615 - x
set_option maxHeartbeats 400000 in
theorem like_any (bm bw : Nat) (bs : List Bool) (ws : List Nat) (k : Nat) (on : Bool) (w : World) (hm : MapIs w bm bw bs ws) (hk : k < ws.length) :
    Calls Tryd.prog 34 #[.pointer (some ⟨bm, 0, none⟩), .int .i64 k, .bool on] w fun e w' => e = .returned (.int .u64 (likeOf ws[k] on)) ∧ w' = w := by
  have hle : ws.length ≤ 1024 := by have := hm.le; have := hm.len; omega
  have hc1 : w.cell? ⟨bm, 1, none⟩ = some (.slice (some ⟨bw, 0, none⟩) ws.length ws.length) := by rw [hm.m.cell]; rfl
  have hc2 : w.cell? ⟨bw, k, none⟩ = some (.int .u64 (ws[k] : Int)) := by rw [hm.r.cell]; simp [hk]
  have hb := hm.lt k hk
  cases on
  · have hsg : IntKind.u64.signed = false := rfl
    have hmx : IntKind.u64.max = ((18446744073709551615 : Nat) : Int) := rfl
    have HV : Hid (bits BinOp.xor IntKind.u64 IntKind.u64.max ↑ws[k] = (likeOf ws[k] false : Int)) := by
      show _ = _
      rw [hmx, bits_xor_u64_nat _ _ (by decide) hb]
      have : 18446744073709551615 ^^^ ws[k] = 18446744073709551615 - ws[k] := by
        apply Nat.eq_of_testBit_eq
        intro i
        have e1 : (18446744073709551615 : Nat) = 2 ^ 64 - 1 := by decide
        have e2 : 18446744073709551615 - ws[k] = 2 ^ 64 - (ws[k] + 1) := by omega
        rw [e2, Nat.testBit_two_pow_sub_succ hb, Nat.testBit_xor, e1, Nat.testBit_two_pow_sub_one]
        by_cases h : i < 64
        · simp [h]
        · have : ws[k].testBit i = false := Nat.testBit_lt_two_pow (Nat.lt_of_lt_of_le hb (pow_le (a := 64) (by omega)))
          simp [h, this]
      rw [this]; rfl
    clear hmx
    go_enter Tryd.func34, Tryd.ntmps34
    go_wp2
    go_ret
    exact ⟨by rw [← HV.out]; rfl, rfl⟩
  · go_enter Tryd.func34, Tryd.ntmps34
    go_wp2
    go_ret
    exact ⟨rfl, rfl⟩

end Go.Proofs.YtijoocoacaogoaaDoor
