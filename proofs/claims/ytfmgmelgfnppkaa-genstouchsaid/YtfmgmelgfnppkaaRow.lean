/-
  Two rows that are one compared; what an act's call wants; what the laws want of groups and ages.
-/
import Derived.Test.YtfmgmelgfnppkaaOpen
import Derived.Test.YtfmgmelgfnppkaaWorks
namespace Go.Proofs.Ytfmgmelgfnppkaa
open Go.RowKit

set_option maxHeartbeats 1000000 in
theorem rowT (a b : Option Addr) (c d : Nat) (N : List Int) (w : World) (hI : Ints w a N) (hJ : Ints w b N) (hl : N.length < 10000000) :
    Calls Try.prog 16 #[.slice a N.length c, .slice b N.length d] w fun e w' => e = .returned (.bool true) ∧ ∃ n, w' = w.drewN n := by
  have HI : Hid (Ints w a N) := hI
  have HJ : Hid (Ints w b N) := hJ
  have z0 : ((N.length : Int) != (N.length : Int)) = false := by simp
  clear hI hJ
  go_enter Try.func16, Try.ntmps16
  go_wp2_with fail
  go_loopw [5] (fun s5 wr => ∃ k : Nat, k ≤ N.length ∧ s5 = .int .i64 k ∧ ∃ n, wr = w.drewN n) (fun s5 _ => N.length - (intOf s5).toNat)
  case atStart => exact ⟨0, by omega, rfl, 0, rfl⟩
  case round =>
    obtain ⟨k, hk, rfl, n, rfl⟩ := hrel
    by_cases hkl : k < N.length
    · have hd : decide ((k : Int) < (N.length : Int)) = true := by simp; omega
      obtain ⟨b1, o1, rfl, k1, -⟩ := HI.out.get hkl
      obtain ⟨b2, o2, rfl, k2, -⟩ := HJ.out.get hkl
      obtain ⟨x, hx⟩ : ∃ x, x = N[k] := ⟨_, rfl⟩
      rw [← hx] at k1 k2
      have z1 : (x != x) = false := by simp
      clear hx
      go_wp2_with fail
      go_quiet (fail)
      go_wp2
      exact ⟨⟨k + 1, by omega, by go_num, _, rfl⟩, by simp [intOf]; omega⟩
    · obtain rfl : k = N.length := by omega
      have hd : decide ((N.length : Int) < (N.length : Int)) = false := by simp
      go_wp2
      go_ret
      exact ⟨rfl, _, rfl⟩

/-! ### groups and ages behind a call -/
theorem grpN_range {L : List En} (h : Ok L) (i : Int) : (grpN L i = -1 ∧ lk L i = none) ∨ (0 ≤ grpN L i ∧ ∃ x, lk L i = some x) := by
  cases hl : lk L i with
  | none => exact Or.inl ⟨grpN_none hl, rfl⟩
  | some x => exact Or.inr ⟨by rw [grpN_some hl]; exact (h.lk hl).1.2.1.1, x, rfl⟩
theorem old_move {L : List En} {f t : Int} (i : Int) : oldN (moveL L f t) i = oldN L i := by
  cases hm : may f t with
  | false => simp [moveL, hm]
  | true =>
    have h1 := moveL_lk L hm i
    cases hl : lk L i with
    | none => rw [hl] at h1; rw [oldN_none hl, oldN_none h1]
    | some x => rw [hl] at h1; rw [oldN_some hl, oldN_some h1, mv_a]
theorem grp_move {L : List En} {f t : Int} (hm : may f t = true) (i : Int) (hf : 0 ≤ f) : grpN (moveL L f t) i = if grpN L i = f then t else grpN L i := by
  have h1 := moveL_lk L hm i
  cases hl : lk L i with
  | none =>
    rw [hl] at h1
    rw [grpN_none hl, grpN_none h1, if_neg (by omega)]
  | some x =>
    rw [hl] at h1
    rw [grpN_some hl, grpN_some h1]
    unfold mv
    by_cases hx : x.g = f <;> simp [hx]
theorem iL_len {L : List En} (h : Ok L) (g : Int) : (iL L [g]).length = cntL L g := by
  unfold iL
  rw [List.length_map, ord_one_len h]
theorem cnt_le (L : List En) (g : Int) : cntL L g ≤ L.length := List.countP_le_length ..
end Go.Proofs.Ytfmgmelgfnppkaa
