/-
  Contracts of the document's own store: Write, Clear, Move.
-/
import Derived.Test.YtidjbkjbfblknaaR2
namespace Go.Proofs.Ytidjbkjbfblknaa
open Go.RowKit

theorem splice_zero (L : List UInt8) (o : Nat) : splice L o [] = L := by simp [splice]
theorem splice_next (L T : List UInt8) (o j : Nat) (h : o + T.length ≤ L.length) (hj : j < T.length) : (splice L o (T.take j)).set (o + j) T[j] = splice L o (T.take (j + 1)) := by
  apply List.ext_getElem?
  intro x
  have l1 : (T.take j).length = j := by simp; omega
  have l2 : (T.take (j + 1)).length = j + 1 := by simp; omega
  rw [List.getElem?_set, splice_get _ _ _ _ (by omega), splice_get _ _ _ _ (by omega), length_splice _ _ _ (by omega), l1, l2]
  by_cases a : o + j = x
  · subst a
    rw [if_pos rfl, if_pos (by omega), if_neg (by omega), if_pos (by omega), List.getElem?_take, if_pos (by omega)]
    rw [show o + j - o = j by omega, List.getElem?_eq_getElem hj]
  · rw [if_neg a]
    by_cases b : x < o
    · rw [if_pos b, if_pos b]
    · rw [if_neg b, if_neg b]
      by_cases c : x < o + j
      · rw [if_pos c, if_pos (by omega), List.getElem?_take, List.getElem?_take, if_pos (by omega), if_pos (by omega)]
      · rw [if_neg c, if_neg (by omega)]

theorem text_get {T : List UInt8} {t : ByteArray} (ht : t = ⟨T.toArray⟩) (i : Nat) (h : i < t.size) (hi : i < T.length) : t[i] = T[i] := by
  subst ht
  show T.toArray[i] = _
  simp

theorem ref_step {w w' : World} {r q n k j : Nat} {L T : List UInt8} (hL : L.length = n * 16) (hk : k < n) (hT : T.length = 16) (hj : j < 16) (h : RefIs w r q n (splice L (k * 16) (T.take j))) (hb : But q w' w) {t : ByteArray} (ht : t = ⟨T.toArray⟩) (h2 : j < t.size) :
    RefIs (w.setCell ⟨q, 16 * k + j, none⟩ (.int .u8 ((t[j]'h2).toNat : Int))) r q n (splice L (k * 16) (T.take (j + 1))) ∧ But q w' (w.setCell ⟨q, 16 * k + j, none⟩ (.int .u8 ((t[j]'h2).toNat : Int))) := by
  refine ⟨?_, hb.trans (But.setCell _ _ _ _)⟩
  rw [text_get ht j h2 (by omega), Nat.mul_comm]
  have hc1 := h.c.set (k * 16 + j) (bv T[j])
  rw [bc_set, splice_next L T (k * 16) j (by omega) (by omega)] at hc1
  refine h.set (But.setCell _ _ _ _) hc1 ?_
  rw [length_splice _ _ _ (by simp; omega), length_splice _ _ _ (by simp; omega)]

set_option maxHeartbeats 2000000 in
theorem rwrite (r q n : Nat) (L : List UInt8) (i : Int) (T : List UInt8) (w : World) (h : RefIs w r q n L) :
    Calls Try.prog 10 #[.pointer (some ⟨r, 0, none⟩), .int .i64 i, .string ⟨T.toArray⟩] w fun e w' => e = .returned (.int .i64 (writeE n i T)) ∧ RefIs w' r q n (writeL n L i T) ∧ Apart q w w' := by
  have hsz := text_size T
  obtain ⟨t, ht⟩ : ∃ t : ByteArray, t = ⟨T.toArray⟩ := ⟨_, rfl⟩
  rw [← ht] at hsz ⊢
  have HT : Hid (t = ⟨T.toArray⟩) := ht
  clear ht
  cases h1 : hasP n i with
  | false =>
    have HB : Hid (writeL n L i T = L) := writeL_no h1
    have HE : Hid (writeE n i T = 1) := writeE_no h1
    have H1 : Hid (hasP n i = false) := h1
    clear h1
    go_enter Try.func10, Try.ntmps10
    go_wp2_with fail
    refine (rpage _ _ n L i _ h).mono ?_
    rintro e w' ⟨rfl, rfl⟩
    rw [H1.out]
    go_wp2_with fail
    go_ret
    exact ⟨by rw [HE.out]; rfl, by rw [HB.out]; exact h, Apart.refl _ _⟩
  | true =>
    have H1 : Hid (hasP n i = true) := h1
    by_cases hT : T.length = 16
    · obtain ⟨k, rfl, hk⟩ := hasP_true h1
      have HB : Hid (writeL n L k T = splice L (k * 16) T) := writeL_ok h1 hT
      have HE : Hid (writeE n k T = 0) := writeE_ok h1 hT
      have hle := h.le
      rw [hT] at hsz
      clear h1
      go_enter Try.func10, Try.ntmps10
      go_wp2_with fail
      refine (rpage _ _ n L k _ h).mono ?_
      rintro e w' ⟨rfl, rfl⟩
      rw [H1.out]
      go_wp2_with fail
      go_loopw [7] (fun x wr => ∃ j : Nat, j ≤ 16 ∧ x = .int .i64 j ∧ RefIs wr r q n (splice L (k * 16) (T.take j)) ∧ But q w' wr) (fun x _ => 16 - (intOf x).toNat)
      case atStart => exact ⟨0, by omega, rfl, by rw [List.take_zero, splice_zero]; exact h, But.refl _ _⟩
      case round =>
        obtain ⟨j, hj, rfl, hr, hb⟩ := hrel
        by_cases hlt : j < 16
        · have hc := hr.cell
          have hLl := hr.len
          have hl : k * 16 + j < (splice L (k * 16) (T.take j)).length := by rw [hLl]; omega
          have hat := hr.at (k * 16 + j) hl
          have hfr := hr.c.frozen (k * 16 + j)
          obtain ⟨M, hM⟩ : ∃ M, M = (splice L (k * 16) (T.take j)).length := ⟨_, rfl⟩
          obtain ⟨x, hx⟩ : ∃ x, x = ((splice L (k * 16) (T.take j))[k * 16 + j].toNat : Int) := ⟨_, rfl⟩
          rw [← hx] at hat
          rw [← hM] at hc hLl
          have hat' : wr.cell? ⟨q, 16 * k + j, none⟩ = some (.int .u8 x) := by rw [Nat.mul_comm]; exact hat
          have hfr' : wr.frozen? ⟨q, 16 * k + j, none⟩ = false := by rw [Nat.mul_comm]; exact hfr
          clear hx hM hat hfr hl
          have hin : 16 * k + j < M := by omega
          have hin1 : (16 * (k : Int) + (j : Int)) < (M : Int) := by omega
          have hin2 : 0 ≤ (16 * (k : Int) + (j : Int)) := by omega
          clear hLl
          go_wp2
          go_region
          go_wp2
          go_roundw
          case rel =>
            obtain ⟨f1, f2⟩ := ref_step h.len hk hT hlt hr hb HT.out (by omega)
            exact ⟨j + 1, by omega, by go_num, f1.drewN 1, f2.drewN 1⟩
          case measure => simp [intOf]; omega
        · obtain rfl : j = 16 := by omega
          have hTt : T.take 16 = T := List.take_of_length_le (by omega)
          have hr' : RefIs wr r q n (splice L (k * 16) T) := by
            have := hr
            rw [hTt] at this
            exact this
          clear hr hTt hlt
          go_wp2
          go_ret
          exact ⟨by rw [HE.out]; rfl, by rw [HB.out]; exact hr', Apart.ofBut hb⟩
    · have HB : Hid (writeL n L i T = L) := writeL_no2 hT
      have HE : Hid (writeE n i T = 1) := writeE_no2 hT
      clear h1
      go_enter Try.func10, Try.ntmps10
      go_wp2_with fail
      refine (rpage _ _ n L i _ h).mono ?_
      rintro e w' ⟨rfl, rfl⟩
      rw [H1.out]
      go_wp2_with fail
      go_ret
      exact ⟨by rw [HE.out]; rfl, by rw [HB.out]; exact h, Apart.refl _ _⟩

theorem ref_alloc {w w' : World} {r q n : Nat} {L : List UInt8} (h : RefIs w r q n L) (hb : Below w.heap.size w w') : RefIs w' r q n L := h.below hb h.lt.1 h.lt.2

theorem rclear (r q n : Nat) (L : List UInt8) (i : Int) (w : World) (h : RefIs w r q n L) :
    Calls Try.prog 13 #[.pointer (some ⟨r, 0, none⟩), .int .i64 i] w fun e w' => e = .returned (.int .i64 (writeE n i noughts)) ∧ RefIs w' r q n (writeL n L i noughts) ∧ Apart q w w' := by
  go_enter Try.func13, Try.ntmps13
  go_wp2_with (at_make; refine wpList_make_row _ rfl (.const (.int .i64 16)) (.const (.int .i64 16)) 41 rfl 5 (.int .u8 0) 1 Try.underlying41 info5z rfl .i64 .i64 _ _ 16 rfl rfl rfl rfl (by omega) (by omega) ?_; intro w9 hr hz hb9; have hcv := nought_conv hr)
  refine (rwrite _ _ n L i noughts _ (ref_alloc h hb9)).mono ?_
  rintro e w2 ⟨rfl, h2, h3⟩
  go_wp2_with fail
  go_ret
  exact ⟨rfl, h2, (Apart.ofBelow hb9).trans h3⟩

set_option maxHeartbeats 1000000 in
theorem rmove (r q n : Nat) (L : List UInt8) (i j : Int) (w : World) (h : RefIs w r q n L) :
    Calls Try.prog 12 #[.pointer (some ⟨r, 0, none⟩), .int .i64 i, .int .i64 j] w fun e w' => e = .returned (.int .i64 (moveE n i j)) ∧ RefIs w' r q n (moveL n L i j) ∧ Apart q w w' := by
  cases h1 : hasP n i with
  | false =>
    have HB : Hid (moveL n L i j = L) := moveL_no1 h1
    have HE : Hid (moveE n i j = 1) := moveE_no1 h1
    have H1 : Hid (hasP n i = false) := h1
    clear h1
    go_enter Try.func12, Try.ntmps12
    go_wp2_with fail
    refine (rpage _ _ n L i _ h).mono ?_
    rintro e w' ⟨rfl, rfl⟩
    rw [H1.out]
    go_wp2_with fail
    go_ret
    exact ⟨by rw [HE.out]; rfl, by rw [HB.out]; exact h, Apart.refl _ _⟩
  | true =>
    have H1 : Hid (hasP n i = true) := h1
    cases h2 : hasP n j with
    | false =>
      have HB : Hid (moveL n L i j = L) := moveL_no2 h2
      have HE : Hid (moveE n i j = 1) := moveE_no2 h2
      have H2 : Hid (hasP n j = false) := h2
      clear h1 h2
      go_enter Try.func12, Try.ntmps12
      go_wp2_with fail
      refine (rpage _ _ n L i _ h).mono ?_
      rintro e w' ⟨rfl, rfl⟩
      rw [H1.out]
      go_wp2_with fail
      refine (rpage _ _ n L j _ h).mono ?_
      rintro e w' ⟨rfl, rfl⟩
      rw [H2.out]
      go_wp2_with fail
      go_ret
      exact ⟨by rw [HE.out]; rfl, by rw [HB.out]; exact h, Apart.refl _ _⟩
    | true =>
      have H2 : Hid (hasP n j = true) := h2
      have HE : Hid (moveE n i j = 0) := moveE_ok h1 h2
      by_cases hij : i = j
      · subst hij
        have HB : Hid (moveL n L i i = L) := moveL_same
        have hb : (i != i) = false := by simp
        clear h1 h2
        go_enter Try.func12, Try.ntmps12
        go_wp2_with fail
        refine (rpage _ _ n L i _ h).mono ?_
        rintro e w' ⟨rfl, rfl⟩
        rw [H1.out]
        go_wp2_with fail
        refine (rpage _ _ n L i _ h).mono ?_
        rintro e w' ⟨rfl, rfl⟩
        rw [H2.out]
        go_wp2_with fail
        go_ret
        exact ⟨by rw [HE.out]; rfl, by rw [HB.out]; exact h, Apart.refl _ _⟩
      · have hb : (i != j) = true := by simp [hij]
        have HB : Hid (moveL n L i j = writeL n (writeL n L j (pgOf L i.toNat)) i noughts) := moveL_ok h1 h2 hij
        have HR : Hid (readT n L i = ⟨(pgOf L i.toNat).toArray⟩) := read_ok h1
        obtain ⟨A, hA⟩ : ∃ A, A = pgOf L i.toNat := ⟨_, rfl⟩
        rw [← hA] at HB HR
        clear h1 h2 hA
        go_enter Try.func12, Try.ntmps12
        go_wp2_with fail
        refine (rpage _ _ n L i _ h).mono ?_
        rintro e w' ⟨rfl, rfl⟩
        rw [H1.out]
        go_wp2_with fail
        refine (rpage _ _ n L j _ h).mono ?_
        rintro e w' ⟨rfl, rfl⟩
        rw [H2.out]
        go_wp2_with fail
        refine (rread _ _ n L i _ h).mono ?_
        rintro e w' ⟨rfl, rfl⟩
        rw [HR.out]
        go_wp2_with fail
        refine (rwrite _ _ n L j A _ h).mono ?_
        rintro e w3 ⟨rfl, h3, h4⟩
        go_wp2_with fail
        refine (rclear _ _ n _ i _ h3).mono ?_
        rintro e w4 ⟨rfl, h5, h6⟩
        go_wp2_with fail
        go_ret
        exact ⟨by rw [HE.out]; rfl, by rw [HB.out]; exact h5, h4.trans h6⟩
end Go.Proofs.Ytidjbkjbfblknaa
