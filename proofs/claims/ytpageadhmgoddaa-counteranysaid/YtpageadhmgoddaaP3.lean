/-
  The contracts of ContainsFunc, of right and its closure.
-/
import Derived.Test.YtpageadhmgoddaaP2
namespace Go.Proofs.Ytpageadhmgoddaa
open Go.RowKit

/-- slices.ContainsFunc, told as IndexFunc is. -/
theorem pcontains (F : Nat) (cs : Array Value) (hF : F = 26 ∧ (∃ x y, cs = #[x, y]) ∨ F = 31 ∧ (∃ x y, cs = #[x, y]) ∨ F = 34 ∧ (∃ x, cs = #[x])) (a : Option Addr) (cap : Nat) (L : List Int) (w : World)
    (p : Nat → Bool) (J : Nat → World → Prop) (K : World → Prop) (h0 : J 0 w) (hI : ∀ i W, J i W → Ints W a L)
    (hf : ∀ (i : Nat) (hi : i < L.length) W, J i W → Calls Try.prog F (#[.int .i64 L[i]] ++ cs) W fun e w' => e = .returned (.bool (p i)) ∧ (p i = true → K w') ∧ (p i = false → J (i + 1) w')) (hl : L.length ≤ 1000000) :
    Calls Try.prog 30 #[.slice a L.length cap, .func (.func F) #[] cs] w fun e w' => (∃ i, i < L.length ∧ p i = true ∧ (∀ j, j < i → p j = false) ∧ e = .returned (.bool true) ∧ K w') ∨ ((∀ j, j < L.length → p j = false) ∧ e = .returned (.bool false) ∧ J L.length w') := by
  have HC : Hid (Calls Try.prog 25 #[.slice a L.length cap, .func (.func F) #[] cs] w fun e w' => (∃ i, i < L.length ∧ p i = true ∧ (∀ j, j < i → p j = false) ∧ e = .returned (.int .i64 i) ∧ K w') ∨ ((∀ j, j < L.length → p j = false) ∧ e = .returned (.int .i64 (-1)) ∧ J L.length w')) :=
    pindex F cs hF a cap L w p J K h0 hI hf hl
  clear hf hI h0 hF
  go_enter Try.func30, Try.ntmps30
  go_wp2_with fail
  refine HC.out.mono ?_
  rintro e w1 (⟨i, hi, hp, hb, rfl, hK⟩ | ⟨hp, rfl, hJ⟩)
  · have hd : decide ((0 : Int) ≤ (i : Int)) = true := by simp
    have HR : Hid (p i = true ∧ (∀ j, j < i → p j = false) ∧ K w1) := ⟨hp, hb, hK⟩
    clear hp hb hK HC
    go_wp2_with fail
    go_ret
    exact Or.inl ⟨i, hi, HR.out.1, HR.out.2.1, rfl, HR.out.2.2⟩
  · have hd : decide ((0 : Int) ≤ (-1 : Int)) = false := rfl
    have HR : Hid ((∀ j, j < L.length → p j = false) ∧ J L.length w1) := ⟨hp, hJ⟩
    clear hp hJ HC
    go_wp2_with fail
    go_ret
    exact Or.inr ⟨HR.out.1, rfl, HR.out.2⟩

/-- Which groups were seen. -/
def bs (D : List Int) : List Value := (List.range 64).map fun k : Nat => Value.bool (decide ((k : Int) ∈ D))
theorem bs_at (D : List Int) (k : Nat) (hk : k < 64) : (bs D)[k]? = some (.bool (decide ((k : Int) ∈ D))) := by simp [bs, hk]
theorem bs_set (D : List Int) (k : Nat) : (bs D).set k (.bool true) = bs (D ++ [(k : Int)]) := by
  apply List.ext_getElem?
  intro j
  rw [List.getElem?_set]
  by_cases hj : j < 64
  · rw [bs_at _ j hj, bs_at _ j hj]
    by_cases h : k = j
    · subst h; simp [bs, hj]
    · have : (j : Int) ≠ k := by omega
      simp [h, this]
  · rw [List.getElem?_eq_none (by simp [bs]; omega), List.getElem?_eq_none (by simp [bs]; omega)]
    split
    · split
      · rename_i h1 h2; simp [bs] at h2; omega
      · rfl
    · rfl

set_option maxHeartbeats 4000000 in
theorem pseen (s : Nat) (D : List Int) (x : Int) (w : World) (h : RowAt w s 55 (bs D)) :
    Calls Try.prog 34 #[.int .i64 x, .pointer (some ⟨s, 0, none⟩)] w fun e w' => e = .returned (.bool (!isG x || decide (x ∈ D))) ∧ ((!isG x || decide (x ∈ D)) = true → w' = w) ∧ ((!isG x || decide (x ∈ D)) = false → RowAt w' s 55 (bs (D ++ [x])) ∧ But s w w') := by
  have HGx := HG
  cases hg : isG x with
  | false =>
    go_enter Try.func34, Try.ntmps34
    go_wp2_with fail
    refine (HGx.out _ _).mono ?_
    rintro e w1 ⟨rfl, rfl⟩
    rw [hg]
    go_wp2_with fail
    go_ret
    exact ⟨rfl, fun _ => rfl, fun h => by cases h⟩
  | true =>
    obtain ⟨k, rfl⟩ := Int.eq_ofNat_of_zero_le (isG_iff.1 hg).1
    have hk : k < 64 := by have := (isG_iff.1 hg).2; omega
    have c0 : w.cell? ⟨s, k, none⟩ = some (.bool (decide ((k : Int) ∈ D))) := by rw [h.cell, bs_at _ k hk]
    have f0 := h.frozen k
    cases hd : decide ((k : Int) ∈ D) with
    | true =>
      rw [hd] at c0
      clear hd h
      go_enter Try.func34, Try.ntmps34
      go_wp2_with fail
      refine (HGx.out _ _).mono ?_
      rintro e w1 ⟨rfl, rfl⟩
      rw [hg]
      go_wp2_with fail
      go_ret
      exact ⟨rfl, fun _ => rfl, fun h => by cases h⟩
    | false =>
      rw [hd] at c0
      have hN := h.set k (.bool true)
      rw [bs_set] at hN
      have HN : Hid (RowAt (w.setCell ⟨s, k, none⟩ (.bool true)) s 55 (bs (D ++ [(k : Int)]))) := hN
      clear hd h hN
      go_enter Try.func34, Try.ntmps34
      go_wp2_with fail
      refine (HGx.out _ _).mono ?_
      rintro e w1 ⟨rfl, rfl⟩
      rw [hg]
      go_wp2_with fail
      go_ret
      exact ⟨rfl, (fun h => by cases h), fun _ => ⟨HN.out, But.setCell _ _ _ _⟩⟩

theorem bs_nil : List.replicate 64 (Value.bool false) = bs [] := by
  have h : bs [] = (List.range 64).map fun _ : Nat => Value.bool false := by simp [bs]
  rw [h]
  rfl

set_option maxRecDepth 100000 in
set_option maxHeartbeats 4000000 in
theorem pright (a : Option Addr) (cap : Nat) (L : List Int) (n : Int) (w : World) (h : Ints w a L) (hl : L.length ≤ 1000000) :
    Calls Try.prog 24 #[.slice a L.length cap, .int .i64 n] w fun e w' => e = .returned (.bool (okC L n)) ∧ Below w.heap.size w w' := by
  have HAx := HA
  have H0 : Hid (RowAt (w.alloc (.cells (List.replicate 64 (Value.bool false)).toArray 55)) w.heap.size 55 (bs [])) := by
    show RowAt _ _ _ _
    rw [← bs_nil]
    exact RowAt.new w (List.replicate 64 (Value.bool false)).toArray 55
  have HB0 : Hid (Below w.heap.size w (w.alloc (.cells (List.replicate 64 (Value.bool false)).toArray 55))) := below_alloc _ _
  have HI : Hid (Ints w a L) := h
  clear h
  go_enter Try.func24, Try.ntmps24
  go_wp2_with fail
  refine (HAx.out _ (w.alloc (.cells (List.replicate 64 (Value.bool false)).toArray 55))).mono ?_
  rintro e w1 ⟨rfl, rfl⟩
  obtain ⟨W0, hW0⟩ : ∃ W0, W0 = w.alloc (.cells (List.replicate 64 (Value.bool false)).toArray 55) := ⟨_, rfl⟩
  rw [← hW0] at H0 HB0 ⊢
  clear hW0
  cases hn : isA n with
  | false =>
    have HQ : Hid (okC L n = false) := by show _ = _; simp [okC, hn]
    go_wp2_with fail
    go_ret
    exact ⟨by rw [HQ.out]; rfl, HB0.out⟩
  | true =>
    have HC : Hid (Calls Try.prog 30 #[.slice a L.length cap, .func (.func 34) #[] #[.pointer (some ⟨w.heap.size, 0, none⟩)]] W0 fun e w' => e = .returned (.bool (!okC L n)) ∧ Below w.heap.size w w') := by
      show Calls _ _ _ _ _
      refine (pcontains 34 _ (Or.inr (Or.inr ⟨rfl, _, rfl⟩)) a cap L W0 (bad L) (fun i W => RowAt W w.heap.size 55 (bs (L.take i)) ∧ Below w.heap.size w W) (fun W => Below w.heap.size w W) ⟨H0.out, HB0.out⟩ (fun i W hW => HI.out.later hW.2) ?_ hl).mono ?_
      · intro i hi W ⟨h1, h2⟩
        have e1 : L.getD i 0 = L[i] := by simp [hi]
        have e2 : bad L i = (!isG L[i] || decide (L[i] ∈ L.take i)) := by unfold bad; rw [e1]
        refine (pseen w.heap.size (L.take i) L[i] W h1).mono ?_
        rintro e w' ⟨g1, g2, g3⟩
        refine ⟨by rw [e2]; exact g1, fun hb => ?_, fun hb => ?_⟩
        · rw [g2 (by rw [← e2]; exact hb)]; exact h2
        · obtain ⟨g4, g5⟩ := g3 (by rw [← e2]; exact hb)
          refine ⟨by rw [List.take_succ_eq_append_getElem hi]; exact g4, ?_⟩
          exact h2.trans (g5.below (Nat.le_refl _))
      · rintro e w' (⟨i, hi, hp, -, rfl, hK⟩ | ⟨hp, rfl, -, hB⟩)
        · refine ⟨?_, hK⟩
          simp [okC, hn, okL_bad hi hp]
        · refine ⟨?_, hB⟩
          simp [okC, hn, okL_good hp]
    obtain ⟨q, hq⟩ : ∃ q, q = okC L n := ⟨_, rfl⟩
    rw [← hq] at HC
    have HQ : Hid (okC L n = q) := hq.symm
    clear hq H0 HB0 HI HAx hn
    go_wp2_with fail
    refine HC.out.mono ?_
    rintro e w1 ⟨rfl, hb⟩
    have hqq : (!(!q)) = q := by simp
    go_wp2_with fail
    go_ret
    exact ⟨by rw [HQ.out]; simp, hb⟩
end Go.Proofs.Ytpageadhmgoddaa
