/-
  The law CounterBack walked.
-/
import Derived.Test.YtpageadhmgoddaaOpen
namespace Go.Proofs.Ytpageadhmgoddaa
open Go.RowKit

/-- What is tried and given back in parts. -/
theorem back_math (L : List Int) (a b c : Int) (hL : okL L = true) (ha : 0 ≤ a ∧ a ≤ 1073741824) (hb : 0 ≤ b ∧ b ≤ 1073741824) (hc : 0 ≤ c ∧ c ≤ 1073741824) :
    ∃ S1 S2 S3 S4 : Cs, S1 = tryC newC L (a + b) ∧ S2 = giveC S1 L a ∧ S3 = giveC S2 L (b + 1 + c) ∧ S4 = giveC S3 L b ∧
    tryE newC L (a + b) = 0 ∧ giveE S1 L a = 0 ∧ giveE S2 L (b + 1 + c) = (if L = [] then 0 else 2) ∧ giveE S3 L b = 0 ∧ ∀ g, S4.u g = 0 := by
  have hok : ∀ n, 0 ≤ n ∧ n ≤ 1099511627776 → okC L n = true := fun n hn => by simp only [okC, Bool.and_eq_true]; exact ⟨isA_iff.2 hn, hL⟩
  have k0 := hok (a + b) (by omega)
  have k1 := hok a (by omega)
  have k2 := hok (b + 1 + c) (by omega)
  have k3 := hok b (by omega)
  obtain ⟨-, hg, -⟩ := okC_parts k0
  have f0 : L.find? (over newC (a + b)) = none := by
    refine find_end fun j hj => ?_
    have h1 := isG_iff.2 (hg _ (List.getElem_mem hj))
    simp only [over, newC, h1, if_true, Bool.and_eq_false_iff, decide_eq_false_iff_not]
    omega
  obtain ⟨e1, -, e2⟩ := try_ok k0 f0
  have u1 : ∀ g, (growC newC L (a + b)).u g = if g ∈ L then a + b else 0 := fun g => by simp only [growC, newC]; split <;> omega
  have f1 : L.find? (lack (growC newC L (a + b)) a) = none := by
    refine find_end fun j hj => ?_
    simp only [lack, u1, List.getElem_mem hj, if_true, decide_eq_false_iff_not]
    omega
  obtain ⟨e3, e4⟩ := give_ok k1 f1
  have u2 : ∀ g, (shrC (growC newC L (a + b)) L a).u g = if g ∈ L then b else 0 := fun g => by
    simp only [shrC, u1]
    split <;> omega
  have e56 : giveC (shrC (growC newC L (a + b)) L a) L (b + 1 + c) = shrC (growC newC L (a + b)) L a ∧ giveE (shrC (growC newC L (a + b)) L a) L (b + 1 + c) = (if L = [] then 0 else 2) := by
    by_cases hn : L = []
    · subst hn
      obtain ⟨e5, e6⟩ := give_ok (S := shrC (growC newC [] (a + b)) [] a) k2 (by rfl)
      rw [e5, e6, shr_nil (shrC (growC newC [] (a + b)) [] a)]
      exact ⟨rfl, rfl⟩
    · have f2 : L.find? (lack (shrC (growC newC L (a + b)) L a) (b + 1 + c)) = some (L[0]'(List.length_pos_iff.2 hn)) := by
        refine find_at _ ?_ fun j _ hj => by omega
        simp only [lack, u2, List.getElem_mem, if_true, decide_eq_true_eq]
        omega
      obtain ⟨e5, e6⟩ := give_fail k2 f2
      rw [e5, e6, if_neg hn]
      exact ⟨rfl, rfl⟩
  obtain ⟨e5, e6⟩ := e56
  have f3 : L.find? (lack (shrC (growC newC L (a + b)) L a) b) = none := by
    refine find_end fun j hj => ?_
    simp only [lack, u2, List.getElem_mem hj, if_true, decide_eq_false_iff_not]
    omega
  obtain ⟨e7, e8⟩ := give_ok k3 f3
  refine ⟨_, _, _, _, rfl, rfl, rfl, rfl, e2, ?_, ?_, ?_, fun g => ?_⟩
  · rw [e1]; exact e4
  · rw [e1, e3]; exact e6
  · rw [e1, e3, e5]; exact e8
  · rw [e1, e3, e5, e7]
    show (if g ∈ L then (shrC (growC newC L (a + b)) L a).u g - b else (shrC (growC newC L (a + b)) L a).u g) = 0
    rw [u2]
    split <;> omega

set_option maxRecDepth 100000 in
set_option maxHeartbeats 4000000 in
theorem back_walk (q : Option Addr) (cap : Nat) (L : List Int) (a b c : Int) (w : World) (hI : Ints w q L) :
    Calls Try.prog 8 #[.slice q L.length cap, .int .i64 a, .int .i64 b, .int .i64 c] w fun e w' => e = .returned (.bool true) ∧ Below w.heap.size w w' := by
  by_cases h0 : 80 < L.length
  · have d0 : decide ((80 : Int) < (L.length : Int)) = true := by simp; omega
    clear hI
    go_enter Try.func8, Try.ntmps8
    go_wp2_with fail
    refine (works_any _).mono ?_
    rintro e w1 ⟨rfl, hb⟩
    go_wp2_with fail
    go_ret
    exact ⟨rfl, hb⟩
  have d0 : decide ((80 : Int) < (L.length : Int)) = false := by simp; omega
  by_cases h1 : a < 0
  · have d1 : decide (a < 0) = true := by simp; omega
    clear hI
    go_enter Try.func8, Try.ntmps8
    go_wp2_with fail
    refine (works_any _).mono ?_
    rintro e w1 ⟨rfl, hb⟩
    go_wp2_with fail
    go_ret
    exact ⟨rfl, hb⟩
  have d1 : decide (a < 0) = false := by simp; omega
  by_cases h2 : b < 0
  · have d2 : decide (b < 0) = true := by simp; omega
    clear hI
    go_enter Try.func8, Try.ntmps8
    go_wp2_with fail
    refine (works_any _).mono ?_
    rintro e w1 ⟨rfl, hb⟩
    go_wp2_with fail
    go_ret
    exact ⟨rfl, hb⟩
  have d2 : decide (b < 0) = false := by simp; omega
  by_cases h3 : c < 0
  · have d3 : decide (c < 0) = true := by simp; omega
    clear hI
    go_enter Try.func8, Try.ntmps8
    go_wp2_with fail
    refine (works_any _).mono ?_
    rintro e w1 ⟨rfl, hb⟩
    go_wp2_with fail
    go_ret
    exact ⟨rfl, hb⟩
  have d3 : decide (c < 0) = false := by simp; omega
  by_cases h4 : 1073741824 < a
  · have d4 : decide (1073741824 < a) = true := by simp; omega
    clear hI
    go_enter Try.func8, Try.ntmps8
    go_wp2_with fail
    refine (works_any _).mono ?_
    rintro e w1 ⟨rfl, hb⟩
    go_wp2_with fail
    go_ret
    exact ⟨rfl, hb⟩
  have d4 : decide (1073741824 < a) = false := by simp; omega
  by_cases h5 : 1073741824 < b
  · have d5 : decide (1073741824 < b) = true := by simp; omega
    clear hI
    go_enter Try.func8, Try.ntmps8
    go_wp2_with fail
    refine (works_any _).mono ?_
    rintro e w1 ⟨rfl, hb⟩
    go_wp2_with fail
    go_ret
    exact ⟨rfl, hb⟩
  have d5 : decide (1073741824 < b) = false := by simp; omega
  by_cases h6 : 1073741824 < c
  · have d6 : decide (1073741824 < c) = true := by simp; omega
    clear hI
    go_enter Try.func8, Try.ntmps8
    go_wp2_with fail
    refine (works_any _).mono ?_
    rintro e w1 ⟨rfl, hb⟩
    go_wp2_with fail
    go_ret
    exact ⟨rfl, hb⟩
  have d6 : decide (1073741824 < c) = false := by simp; omega
  have HI : Hid (∀ W, Below w.heap.size w W → Stay w.heap.size W q L) := fun W h => Stay.came hI h
  clear hI
  have ew : IntKind.i64.wrap (a + b) = a + b := by rw [IntKind.wrap_i64]; omega
  have ew1 : IntKind.i64.wrap (b + 1) = b + 1 := by rw [IntKind.wrap_i64]; omega
  have ew2 : IntKind.i64.wrap (b + 1 + c) = b + 1 + c := by rw [IntKind.wrap_i64]; omega
  go_enter Try.func8, Try.ntmps8
  go_wp2_with fail
  refine (works_any _).mono ?_
  rintro e w1 ⟨rfl, hb⟩
  go_wp2_with fail
  refine (newT hb).mono ?_
  rintro e w2 ⟨t, rfl, h2, -⟩
  clear hb
  go_wp2_with fail
  refine (tryT (a + b) h2 (HI.out _ h2.bel) (by omega) (by omega)).mono ?_
  rintro e w3 ⟨rfl, h3, -⟩
  clear h2
  cases hL : okL L with
  | false =>
    have HE : Hid (tryE newC L (a + b) = 1) := (try_bad (by simp [okC, hL])).2.2
    rw [HE.out]
    go_wp2_with fail
    go_ret
    exact ⟨rfl, h3.bel⟩
  | true =>
    obtain ⟨S1, S2, S3, S4, r1, r2, r3, r4, m1, m2, m3, m4, m5⟩ := back_math L a b c hL (by omega) (by omega) (by omega)
    rw [m1]
    rw [← r1] at h3
    have HR : Hid (S2 = giveC S1 L a ∧ S3 = giveC S2 L (b + 1 + c) ∧ S4 = giveC S3 L b) := ⟨r2, r3, r4⟩
    have HM : Hid (giveE S1 L a = 0 ∧ giveE S2 L (b + 1 + c) = (if L = [] then 0 else 2) ∧ giveE S3 L b = 0 ∧ ∀ g, S4.u g = 0) := ⟨m2, m3, m4, m5⟩
    clear r1 r2 r3 r4 m1 m2 m3 m4 m5 hL
    go_wp2_with fail
    refine (giveT a h3 (HI.out _ h3.bel) (by omega)).mono ?_
    rintro e w4 ⟨rfl, h4, -⟩
    rw [← HR.out.1] at h4
    rw [HM.out.1]
    clear h3
    go_wp2_with fail
    refine (giveT (b + 1 + c) h4 (HI.out _ h4.bel) (by omega)).mono ?_
    rintro e w5 ⟨rfl, h5, -⟩
    rw [← HR.out.2.1] at h5
    rw [HM.out.2.1]
    clear h4
    obtain ⟨E, hE⟩ : ∃ E : Int, E = (if L = [] then 0 else 2) := ⟨_, rfl⟩
    rw [← hE]
    have HE : Hid (E = (if L = [] then 0 else 2)) := hE
    clear hE
    go_wp2_with fail
    refine (giveT b h5 (HI.out _ h5.bel) (by omega)).mono ?_
    rintro e w6 ⟨rfl, h6, -⟩
    rw [← HR.out.2.2] at h6
    rw [HM.out.2.2.1]
    clear h5
    have HU : Hid (∀ g, S4.u g = 0) := HM.out.2.2.2
    clear HM HR HI
    go_wp2_with fail
    go_loopw [16] (fun s16 wr => ∃ i : Nat, i ≤ 64 ∧ s16 = .int .i64 i ∧ Ct w 1 wr t S4) (fun s16 _ => 64 - (intOf s16).toNat)
    case atStart => exact ⟨0, by omega, rfl, h6⟩
    case round =>
      clear h6
      obtain ⟨i, hi, rfl, h7⟩ := hrel
      by_cases hlt : i < 64
      · have hil : decide ((i : Int) < 64) = true := by simp; omega
        have HT : Hid (Calls Try.prog 19 #[.pointer (some ⟨t, 0, none⟩), .int .i64 i] wr fun e w' => e = .returned (.int .i64 0) ∧ Ct w 1 w' t S4) := by
          show Calls _ _ _ _ _
          have := useT (i : Int) h7
          rw [HU.out] at this
          exact this.mono fun _ _ ⟨g1, g2, _⟩ => ⟨g1, g2⟩
        clear h7
        go_wp2_with fail
        refine HT.out.mono ?_
        rintro e w8 ⟨rfl, h8⟩
        go_wp2_with fail
        exact ⟨⟨i + 1, by omega, by go_num, h8⟩, by simp [intOf]; omega⟩
      · obtain rfl : i = 64 := by omega
        have hil : decide (((64 : Nat) : Int) < 64) = false := by simp
        cases L with
        | nil =>
          have hE : E = 0 := HE.out
          subst hE
          clear HE
          go_wp2_with fail
          go_ret
          exact ⟨rfl, h7.bel⟩
        | cons x L =>
          have hE : E = 2 := HE.out
          subst hE
          have q0 : ((((x :: L).length : Nat) : Int) == 0) = false := by simp; omega
          obtain ⟨M, hM⟩ : ∃ M, M = (x :: L).length := ⟨_, rfl⟩
          clear HE
          go_wp2_with fail
          go_ret
          exact ⟨rfl, h7.bel⟩
end Go.Proofs.Ytpageadhmgoddaa
