/-
  The document's Digits and Show.
-/
import Derived.Test.YtbkeoaombhhdiaaDoorP4
namespace Go.Proofs.YtbkeoaombhhdiaaDoor
open Go.RowKit

def tLeast : Bs := [45, 57, 50, 50, 51, 51, 55, 50, 48, 51, 54, 56, 53, 52, 55, 55, 53, 56, 48, 56]
theorem dgI_least : dgI (-9223372036854775808) = tLeast := by
  unfold dgI
  rw [if_pos (by decide)]
  have h : isDgB [57, 50, 50, 51, 51, 55, 50, 48, 51, 54, 56, 53, 52, 55, 55, 53, 56, 48, 56] = true := by decide
  have e := dg_val ((isDgB_iff _).1 h)
  have hv : val [57, 50, 50, 51, 51, 55, 50, 48, 51, 54, 56, 53, 52, 55, 55, 53, 56, 48, 56] = 9223372036854775808 := by decide
  rw [hv] at e
  have hn : (-(-9223372036854775808 : Int)).toNat = 9223372036854775808 := by decide
  rw [hn, e]
  rfl
/-- The digits behind, and what is left of the number. -/
def Part (m k : Nat) (T : Bs) : Prop := (T = [] ∧ k = m) ∨ (T ≠ [] ∧ ((k = 0 ∧ T = dg m) ∨ (0 < k ∧ dg m = dg k ++ T)))
theorem Part.next {m k : Nat} {T : Bs} (h : Part m k T) (hg : 0 < k ∨ T = []) : Part m (k / 10) (dgt (k % 10) :: T) := by
  have hd : ∀ k, k < 10 → dgt (k % 10) = dgt k := fun k hk => by rw [Nat.mod_eq_of_lt hk]
  refine Or.inr ⟨by simp, ?_⟩
  rcases h with ⟨rfl, rfl⟩ | ⟨h1, ⟨rfl, h2⟩ | ⟨h2, h3⟩⟩
  · by_cases hk : k < 10
    · exact Or.inl ⟨by omega, by rw [dg_small hk, hd k hk]⟩
    · exact Or.inr ⟨by omega, dg_step hk⟩
  · rcases hg with hg | hg
    · omega
    · exact absurd hg h1
  · by_cases hk : k < 10
    · exact Or.inl ⟨by omega, by rw [h3, dg_small hk, hd k hk]; rfl⟩
    · refine Or.inr ⟨by omega, ?_⟩
      rw [h3, dg_step hk]
      simp
theorem Part.done {m : Nat} {T : Bs} (h : Part m 0 T) (hT : T ≠ []) : T = dg m := by
  rcases h with ⟨h1, -⟩ | ⟨-, ⟨-, h2⟩ | ⟨h2, -⟩⟩
  · exact absurd h1 hT
  · exact h2
  · omega
theorem conv_one (w : World) (b : UInt8) (n : Int) (hn : n = (b.toNat : Int)) : (convert 42 9 (.slice (some ⟨w.heap.size, 0, Option.none⟩) 1 1)).run Tryd.prog (w.alloc (.cells #[.int .u8 n] 5)) = .ok (.string ⟨#[b]⟩) (w.alloc (.cells #[.int .u8 n] 5)) := by
  subst hn
  refine run_convert_bytes_back (P := Tryd.prog) (w.alloc (.cells #[.int .u8 (b.toNat : Int)] 5)) 42 9 5 ⟨w.heap.size, 0, Option.none⟩ 1 [b] Tryd.underlying42 Tryd.underlying5 Tryd.underlying9 ?_
  intro j hj
  have : j = 0 := by simpa using hj
  subst this
  simp [Addr.add]
theorem dgt_int (k : Nat) : (48 : Int) + (k : Int) % 10 = ((dgt (k % 10)).toNat : Int) := by
  rw [dgt_nat]
  omega
/-- How many rounds are left, at most. -/
def left (n s : Value) : Nat := (intOf n).toNat + match s with | .string t => if t.size = 0 then 1 else 0 | _ => 0
theorem left_lt {k : Nat} {t u : ByteArray} (h : 0 < k ∨ t.size = 0) (hu : 0 < u.size) : left (.int .i64 ((k / 10 : Nat) : Int)) (.string u) < left (.int .i64 (k : Int)) (.string t) := by
  unfold left intOf
  have : ¬ u.size = 0 := by omega
  simp only [if_neg this]
  rcases h with h | h
  · split <;> omega
  · rw [if_pos h]
    omega
theorem cons_str (b : UInt8) (t : ByteArray) : ((⟨#[b]⟩ : ByteArray) ++ t).data.toList = b :: t.data.toList ∧ ((⟨#[b]⟩ : ByteArray) ++ t).size = t.size + 1 := by
  constructor
  · rw [ByteArray.data_append]; simp
  · rw [ByteArray.size_append]
    have : (⟨#[b]⟩ : ByteArray).size = 1 := rfl
    omega
theorem quo10 (k : Nat) : ((k : Int) / 10) = ((k / 10 : Nat) : Int) := by omega
set_option maxRecDepth 100000 in
set_option maxHeartbeats 1000000 in
theorem rdig (m : Nat) (hm : m ≤ 9223372036854775807) (w : World) : Calls Tryd.prog 28 #[.int .i64 (m : Int)] w fun e w' => e = .returned (.string (str (dg m))) ∧ Below w.heap.size w w' := by
  have h0 : ((m : Int) == -9223372036854775808) = false := by simp
  go_enter Tryd.func28, Tryd.ntmps28
  go_wp2_with fail
  go_loopw [0, 3] (fun n s wr => ∃ (k : Nat) (t : ByteArray), n = .int .i64 k ∧ s = .string t ∧ k ≤ m ∧ (t.size = 0 ∨ t.size + k ≤ m / 10 + 1) ∧ Hid (Part m k t.data.toList) ∧ Below w.heap.size w wr) (fun n s _ => left n s)
  case atStart => exact ⟨m, ⟨#[]⟩, rfl, rfl, Nat.le_refl _, Or.inl rfl, Or.inl ⟨rfl, rfl⟩, Below.refl _ _⟩
  case round =>
    obtain ⟨k, t, rfl, rfl, hk, htz, HP, hbw⟩ := hrel
    have htz2 : t.size ≤ 1000000000000000000 := by omega
    have HZ : Hid (t.size = 0 ∨ t.size + k ≤ m / 10 + 1) := htz
    clear htz
    have HC : Hid (∀ w : World, (convert 42 9 (.slice (some ⟨w.heap.size, 0, Option.none⟩) 1 1)).run Tryd.prog (w.alloc (.cells #[.int .u8 (48 + (k : Int) % 10)] 5)) = .ok (.string ⟨#[dgt (k % 10)]⟩) (w.alloc (.cells #[.int .u8 (48 + (k : Int) % 10)] 5))) := fun w => conv_one w _ _ (dgt_int k)
    have HX : (0 < k ∨ t.data.toList = []) → Hid (Part m (k / 10) ((⟨#[dgt (k % 10)]⟩ : ByteArray) ++ t).data.toList ∧ left (.int .i64 ((k / 10 : Nat) : Int)) (.string ((⟨#[dgt (k % 10)]⟩ : ByteArray) ++ t)) < left (.int .i64 (k : Int)) (.string t) ∧ (((⟨#[dgt (k % 10)]⟩ : ByteArray) ++ t).size = 0 ∨ ((⟨#[dgt (k % 10)]⟩ : ByteArray) ++ t).size + k / 10 ≤ m / 10 + 1)) := fun h => by
      obtain ⟨e1, e2⟩ := cons_str (dgt (k % 10)) t
      refine ⟨by rw [e1]; exact HP.out.next h, left_lt ?_ (by omega), Or.inr ?_⟩
      · rcases h with h | h
        · exact Or.inl h
        · refine Or.inr ?_
          have : t.data.toList.length = t.size := by simp
          rw [h] at this
          simpa using this.symm
      · rw [e2]
        have hz := HZ.out
        rcases h with h | h
        · omega
        · have : t.data.toList.length = t.size := by simp
          rw [h] at this
          simp at this
          omega
    by_cases hp : (0 : Int) < k
    · have HN := HX (Or.inl (by omega))
      clear HX
      have hcv := HC.out
      go_wp2_with fail
      rw [quo10]
      exact ⟨⟨k / 10, _, rfl, rfl, by omega, HN.out.2.2, HN.out.1, hbw.trans ((Below.refl _ _).alloc (Nat.le_refl _) _ |>.mono hbw.size)⟩, HN.out.2.1⟩
    · by_cases ht : t.data.toList = []
      · have HN := HX (Or.inr ht)
        have h1 := emp_yes ht
        clear HX ht
        obtain rfl : k = 0 := by omega
        have hcv : ∀ w : World, (convert 42 9 (.slice (some ⟨w.heap.size, 0, Option.none⟩) 1 1)).run Tryd.prog (w.alloc (.cells #[.int .u8 48] 5)) = .ok (.string ⟨#[dgt (0 % 10)]⟩) (w.alloc (.cells #[.int .u8 48] 5)) := fun w => HC.out w
        clear HC
        go_wp2_with fail
        exact ⟨⟨0, _, rfl, rfl, by omega, HN.out.2.2, HN.out.1, hbw.trans ((Below.refl _ _).alloc (Nat.le_refl _) _ |>.mono hbw.size)⟩, HN.out.2.1⟩
      · have h1 := emp_no ht
        have HD : Hid (t = str (dg m)) := by
          have hk0 : k = 0 := by omega
          have h2 := HP.out
          rw [hk0] at h2
          exact ba_ext (h2.done ht)
        clear HX ht
        go_wp2_with fail
        go_ret
        exact ⟨by rw [← HD.out]; rfl, hbw⟩

set_option maxRecDepth 100000 in
theorem rdigits (n : Int) (h : i64 n) (w : World) : Calls Tryd.prog 28 #[.int .i64 n] w fun e w' => e = .returned (.string (str (dgI n))) ∧ Below w.heap.size w w' := by
  have hb := h
  unfold i64 at hb
  by_cases h1 : n = -9223372036854775808
  · have e : str (dgI n) = ⟨#[45, 57, 50, 50, 51, 51, 55, 50, 48, 51, 54, 56, 53, 52, 55, 55, 53, 56, 48, 56]⟩ := by rw [h1, dgI_least]; rfl
    rw [e]
    have h0 : (n == -9223372036854775808) = true := by simpa using h1
    clear h1 hb
    go_enter Tryd.func28, Tryd.ntmps28
    go_wp2_with fail
    go_ret
    exact ⟨rfl, Below.refl _ _⟩
  · by_cases h2 : n < 0
    · obtain ⟨m, hm⟩ : ∃ m : Nat, (m : Int) = -n := ⟨(-n).toNat, by omega⟩
      have hml : m ≤ 9223372036854775807 := by omega
      have hdl : (dg m).length ≤ 19 := dg_len_le 18 m (by omega)
      have HE : Hid ((⟨#[45]⟩ : ByteArray) ++ str (dg m) = str (dgI n)) := by
        show _ = _
        refine ba_ext ?_
        rw [(cons_str 45 (str (dg m))).1]
        unfold dgI
        rw [if_pos h2, ← hm]
        rfl
      have HR : Hid (∀ w, Calls Tryd.prog 28 #[.int .i64 (-n)] w fun e w' => e = .returned (.string (str (dg m))) ∧ Below w.heap.size w w') := fun w => by
        rw [← hm]
        exact rdig m hml w
      have h0 : (n == -9223372036854775808) = false := by simpa using h1
      have hlo : -9223372036854775807 ≤ n := by omega
      clear h1 hm hb
      go_enter Tryd.func28, Tryd.ntmps28
      go_wp2_with (go_at_call 28; refine (HR.out _).mono ?_; rintro e w1 ⟨rfl, hb1⟩)
      go_ret
      refine ⟨?_, hb1⟩
      rw [← HE.out]
      rfl
    · obtain ⟨m, rfl⟩ := Int.eq_ofNat_of_zero_le (show 0 ≤ n by omega)
      have e : dgI (m : Int) = dg m := by
        unfold dgI
        rw [if_neg (by omega)]
        rfl
      rw [e]
      exact rdig m (by omega) w
set_option maxRecDepth 100000 in
theorem rshow (n : Int) (h : i64 n) (w : World) : Calls Tryd.prog 13 #[.int .i64 n] w fun e w' => e = .returned (.string (str (shw n))) ∧ Below w.heap.size w w' := by
  have HN : Hid (i64 n) := h
  by_cases h1 : n = 1099511627776
  · have h1' : (n == 1099511627776) = true := by simpa using h1
    have e : shw n = tMax := by unfold shw; rw [if_pos h1]
    rw [e]
    clear h1
    go_enter Tryd.func13, Tryd.ntmps13
    go_wp2_with fail
    go_ret
    exact ⟨rfl, Below.refl _ _⟩
  · have h1' : (n == 1099511627776) = false := by simpa using h1
    have e : shw n = dgI n := by unfold shw; rw [if_neg h1]
    rw [e]
    clear h1
    go_enter Tryd.func13, Tryd.ntmps13
    go_wp2_with (go_at_call 28; refine (rdigits _ HN.out _).mono ?_; rintro e w1 ⟨rfl, hb1⟩)
    go_ret
    exact ⟨rfl, hb1⟩
end Go.Proofs.YtbkeoaombhhdiaaDoor
