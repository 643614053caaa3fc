/-
  The statements' helpers: over, texts, row.
-/
import Derived.Test.YtbkeoaombhhdiaaDoorR5
namespace Go.Proofs.YtbkeoaombhhdiaaDoor
open Go.RowKit

def longB (L : List ByteArray) : Bool := L.any fun s => decide (120 < s.size)
/-- Is there more than is looked at? -/
def overB (L : List ByteArray) : Bool := decide (120 < L.length) || longB L
theorem over_no {L : List ByteArray} (h : overB L = false) : L.length ≤ 120 ∧ ∀ s ∈ L, s.size ≤ 120 := by
  unfold overB longB at h
  simp only [Bool.or_eq_false_iff, decide_eq_false_iff_not, List.any_eq_false, decide_eq_true_eq] at h
  exact ⟨by omega, fun s hs => by have := h.2 s hs; omega⟩
theorem over_at {L : List ByteArray} {k : Nat} (hk : k < L.length) (h : 120 < L[k].size) : overB L = true := by
  unfold overB longB
  rw [Bool.or_eq_true, List.any_eq_true]
  exact Or.inr ⟨L[k], List.getElem_mem hk, by simpa using h⟩
theorem over_end {L : List ByteArray} (hl : L.length ≤ 120) (h : ∀ j (hj : j < L.length), j < L.length → L[j].size ≤ 120) : overB L = false := by
  unfold overB longB
  simp only [Bool.or_eq_false_iff, decide_eq_false_iff_not, List.any_eq_false, decide_eq_true_eq]
  refine ⟨by omega, fun s hs => ?_⟩
  obtain ⟨j, hj, rfl⟩ := List.getElem_of_mem hs
  have := h j hj hj
  omega
theorem over_many {L : List ByteArray} (hl : 120 < L.length) : overB L = true := by
  unfold overB
  rw [decide_eq_true hl]
  rfl
set_option maxRecDepth 100000 in
set_option maxHeartbeats 1000000 in
theorem pover (a : Option Addr) (cap : Nat) (L : List ByteArray) (w : World) (hL : Strs w a L) (hl : L.length ≤ 9223372036854775807) :
    Calls Tryd.prog 14 #[.slice a L.length cap] w fun e w' => e = .returned (.bool (overB L)) ∧ w' = w := by
  have HL : Hid (Strs w a L) := hL
  clear hL
  go_enter Tryd.func14, Tryd.ntmps14
  go_wp2_with fail
  go_loop [3] (fun i => ∃ k : Nat, k ≤ L.length ∧ k ≤ 121 ∧ i = .int .i64 k ∧ Hid (∀ j (hj : j < L.length), j < k → L[j].size ≤ 120)) (fun i => L.length - (intOf i).toNat)
  case atStart => exact ⟨0, Nat.zero_le _, by omega, rfl, fun j hj h => by omega⟩
  case round =>
    obtain ⟨k, hk, hk2, rfl, HS⟩ := hrel
    by_cases hlt : (k : Int) < L.length
    · by_cases h120 : (k : Int) ≤ 120
      · obtain ⟨b, off, rfl, hc⟩ := HL.out k (by omega)
        obtain ⟨s, hs⟩ : ∃ s, L[k] = s := ⟨_, rfl⟩
        rw [hs] at hc
        by_cases hsz : (120 : Int) < s.size
        · have HO : Hid (overB L = true) := over_at (k := k) (by omega) (by rw [hs]; omega)
          clear hs
          go_wp2_with fail
          go_ret
          exact ⟨ret_bool HO.out.symm, rfl⟩
        · have HN : Hid (∀ j (hj : j < L.length), j < k + 1 → L[j].size ≤ 120) := by
            intro j hj hjk
            by_cases e : j = k
            · subst e
              rw [hs]
              omega
            · exact HS.out j hj (by omega)
          clear hs
          go_wp2_with fail
          go_round
          case rel => exact ⟨k + 1, by omega, by omega, by go_num, HN⟩
          case measure => simp [intOf]; omega
      · have HO : Hid (overB L = true) := over_many (by omega)
        go_wp2_with fail
        go_ret
        refine ⟨ret_bool ?_, rfl⟩
        rw [HO.out]
        simp
        omega
    · obtain rfl : k = L.length := by omega
      by_cases h120 : (120 : Int) < L.length
      · have HO : Hid (overB L = true) := over_many (by omega)
        go_wp2_with fail
        go_ret
        exact ⟨ret_bool HO.out.symm, rfl⟩
      · have HO : Hid (overB L = false) := over_end (by omega) HS.out
        go_wp2_with fail
        go_ret
        exact ⟨ret_bool HO.out.symm, rfl⟩

theorem texts_ne {L M : List ByteArray} {k : Nat} (h1 : k < L.length) (h2 : k < M.length) (h : L[k] ≠ M[k]) : decide (L = M) = false := by
  rw [decide_eq_false_iff_not]
  intro e
  subst e
  exact h rfl
theorem texts_eq {L M : List ByteArray} (hl : L.length = M.length) (h : ∀ j (h1 : j < L.length) (h2 : j < M.length), j < L.length → L[j] = M[j]) : decide (L = M) = true := by
  rw [decide_eq_true_eq]
  exact List.ext_getElem hl fun j h1 h2 => h j h1 h2 h1
set_option maxRecDepth 100000 in
set_option maxHeartbeats 1000000 in
theorem ptexts (a b : Option Addr) (cap cap2 : Nat) (L M : List ByteArray) (w : World) (hL : Strs w a L) (hM : Strs w b M) (hl : L.length ≤ 9223372036854775807) :
    Calls Tryd.prog 19 #[.slice a L.length cap, .slice b M.length cap2] w fun e w' => e = .returned (.bool (decide (L = M))) ∧ Below w.heap.size w w' := by
  have HL : Hid (Strs w a L) := hL
  have HM : Hid (Strs w b M) := hM
  clear hL hM
  by_cases hlm : L.length = M.length
  case neg =>
    have HO : Hid (decide (L = M) = false) := by
      show _ = _
      rw [decide_eq_false_iff_not]
      intro e
      exact hlm (by rw [e])
    have h1 : ((L.length : Int) != (M.length : Int)) = true := by simp; omega
    clear hlm
    go_enter Tryd.func19, Tryd.ntmps19
    go_wp2_with fail
    go_ret
    exact ⟨ret_bool HO.out.symm, Below.refl _ _⟩
  have h1 : ((L.length : Int) != (M.length : Int)) = false := by simp; omega
  have HLM : Hid (L.length = M.length) := hlm
  clear hlm
  go_enter Tryd.func19, Tryd.ntmps19
  go_wp2_with fail
  go_loopw [5] (fun i wr => ∃ k d : Nat, k ≤ L.length ∧ i = .int .i64 k ∧ Hid (∀ j (h1 : j < L.length) (h2 : j < M.length), j < k → L[j] = M[j]) ∧ wr = w.drewN d) (fun i _ => L.length - (intOf i).toNat)
  case atStart => exact ⟨0, 0, Nat.zero_le _, rfl, fun j h1 h2 h => by omega, rfl⟩
  case round =>
    obtain ⟨k, d, hk, rfl, HS, rfl⟩ := hrel
    by_cases hlt : k < L.length
    · have hlt2 : k < M.length := by have := HLM.out; omega
      obtain ⟨b1, o1, rfl, hc⟩ := HL.out k hlt
      obtain ⟨b2, o2, rfl, hd⟩ := HM.out k hlt2
      obtain ⟨x, hx⟩ : ∃ x, L[k] = x := ⟨_, rfl⟩
      obtain ⟨y, hy⟩ : ∃ y, M[k] = y := ⟨_, rfl⟩
      rw [hx] at hc
      rw [hy] at hd
      by_cases he : x = y
      · have zz : (x.toList == y.toList) = true := by rw [bs_same]; simpa using he
        have HN : Hid (∀ j (h1 : j < L.length) (h2 : j < M.length), j < k + 1 → L[j] = M[j]) := by
          intro j h1 h2 hjk
          by_cases e : j = k
          · subst e
            rw [hx, hy, he]
          · exact HS.out j h1 h2 (by omega)
        clear hx hy he
        go_wp2_with fail
        go_quiet (fail)
        go_wp2_with fail
        exact ⟨⟨k + 1, d + nq, by omega, by go_num, HN, rfl⟩, by simp [intOf]; omega⟩
      · have zz : (x.toList == y.toList) = false := by rw [bs_same]; simpa using he
        have HO : Hid (decide (L = M) = false) := texts_ne hlt hlt2 (by rw [hx, hy]; exact he)
        clear hx hy he
        go_wp2_with fail
        go_quiet (fail)
        go_wp2_with fail
        go_ret
        exact ⟨ret_bool HO.out.symm, below_drawn (below_drawn (Below.refl _ _) _) _⟩
    · obtain rfl : k = L.length := by omega
      have HO : Hid (decide (L = M) = true) := texts_eq HLM.out HS.out
      go_wp2_with fail
      go_ret
      exact ⟨ret_bool HO.out.symm, below_drawn (Below.refl _ _) _⟩

theorem row_ne {L M : List Int} {k : Nat} (h1 : k < L.length) (h2 : k < M.length) (h : L[k] ≠ M[k]) : decide (L = M) = false := by
  rw [decide_eq_false_iff_not]
  intro e
  subst e
  exact h rfl
theorem row_eq {L M : List Int} (hl : L.length = M.length) (h : ∀ j (h1 : j < L.length) (h2 : j < M.length), j < L.length → L[j] = M[j]) : decide (L = M) = true := by
  rw [decide_eq_true_eq]
  exact List.ext_getElem hl fun j h1 h2 => h j h1 h2 h1
set_option maxRecDepth 100000 in
set_option maxHeartbeats 1000000 in
theorem prow (a b : Option Addr) (cap cap2 : Nat) (L M : List Int) (w : World) (hL : Ints w a L) (hM : Ints w b M) (hl : L.length ≤ 9223372036854775807) :
    Calls Tryd.prog 20 #[.slice a L.length cap, .slice b M.length cap2] w fun e w' => e = .returned (.bool (decide (L = M))) ∧ Below w.heap.size w w' := by
  have HL : Hid (Ints w a L) := hL
  have HM : Hid (Ints w b M) := hM
  clear hL hM
  by_cases hlm : L.length = M.length
  case neg =>
    have HO : Hid (decide (L = M) = false) := by
      show _ = _
      rw [decide_eq_false_iff_not]
      intro e
      exact hlm (by rw [e])
    have h1 : ((L.length : Int) != (M.length : Int)) = true := by simp; omega
    clear hlm
    go_enter Tryd.func20, Tryd.ntmps20
    go_wp2_with fail
    go_ret
    exact ⟨ret_bool HO.out.symm, Below.refl _ _⟩
  have h1 : ((L.length : Int) != (M.length : Int)) = false := by simp; omega
  have HLM : Hid (L.length = M.length) := hlm
  clear hlm
  go_enter Tryd.func20, Tryd.ntmps20
  go_wp2_with fail
  go_loopw [5] (fun i wr => ∃ k d : Nat, k ≤ L.length ∧ i = .int .i64 k ∧ Hid (∀ j (h1 : j < L.length) (h2 : j < M.length), j < k → L[j] = M[j]) ∧ wr = w.drewN d) (fun i _ => L.length - (intOf i).toNat)
  case atStart => exact ⟨0, 0, Nat.zero_le _, rfl, fun j h1 h2 h => by omega, rfl⟩
  case round =>
    obtain ⟨k, d, hk, rfl, HS, rfl⟩ := hrel
    by_cases hlt : k < L.length
    · have hlt2 : k < M.length := by have := HLM.out; omega
      obtain ⟨b1, o1, rfl, hc⟩ := HL.out k hlt
      obtain ⟨b2, o2, rfl, hd⟩ := HM.out k hlt2
      obtain ⟨x, hx⟩ : ∃ x, L[k] = x := ⟨_, rfl⟩
      obtain ⟨y, hy⟩ : ∃ y, M[k] = y := ⟨_, rfl⟩
      rw [hx] at hc
      rw [hy] at hd
      by_cases he : x = y
      · have zz : (x != y) = false := by simpa using he
        have HN : Hid (∀ j (h1 : j < L.length) (h2 : j < M.length), j < k + 1 → L[j] = M[j]) := by
          intro j h1 h2 hjk
          by_cases e : j = k
          · subst e
            rw [hx, hy, he]
          · exact HS.out j h1 h2 (by omega)
        clear hx hy he
        go_wp2_with fail
        go_quiet (fail)
        go_wp2_with fail
        exact ⟨⟨k + 1, d + nq, by omega, by go_num, HN, rfl⟩, by simp [intOf]; omega⟩
      · have zz : (x != y) = true := by simpa using he
        have HO : Hid (decide (L = M) = false) := row_ne hlt hlt2 (by rw [hx, hy]; exact he)
        clear hx hy he
        go_wp2_with fail
        go_quiet (fail)
        go_wp2_with fail
        go_ret
        exact ⟨ret_bool HO.out.symm, below_drawn (below_drawn (Below.refl _ _) _) _⟩
    · obtain rfl : k = L.length := by omega
      have HO : Hid (decide (L = M) = true) := row_eq HLM.out HS.out
      go_wp2_with fail
      go_ret
      exact ⟨ret_bool HO.out.symm, below_drawn (Below.refl _ _) _⟩
end Go.Proofs.YtbkeoaombhhdiaaDoor
