/-
  Contracts of package bytes: Write, Move, New.
-/
import Derived.Test.YtidjbkjbfblknaaP3
namespace Go.Proofs.Ytidjbkjbfblknaa
open Go.RowKit

theorem text_size (T : List UInt8) : (⟨T.toArray⟩ : ByteArray).size = T.length := by simp [ByteArray.size]
theorem under30 : Try.prog.underlying 30 = some (.int .i64) := by kernel_rfl

theorem splice_whole {T : List UInt8} {z : Value} (hT : T.length = 16) : splice (List.replicate 16 z) 0 (bc T) = bc T := by
  simp [splice, bc_length, hT]
theorem range_row {w : World} {b : Nat} {t : TypeId} {T : List UInt8} (h : RowAt w b t (bc T)) : w.rangeAt b 0 (bc T) := fun j v hv => by
  rw [Nat.zero_add, h.cell]; exact hv
theorem range_new {w : World} {b : Nat} {t : TypeId} {T : List UInt8} {z : Value} (hT : T.length = 16) (h : RowAt w b t (splice (List.replicate 16 z) 0 (bc T))) : w.rangeAt b 0 (bc T) := by
  rw [splice_whole hT] at h
  exact range_row h
theorem size53_of {T : List UInt8} (hT : T.length = 16) : (Try.prog.info? 53).map (·.size) = some (bc T).length := by rw [size53, bc_length, hT]

set_option maxHeartbeats 1000000 in
theorem swrite (s p n : Nat) (L : List UInt8) (i : Int) (T : List UInt8) (w : World) (h : StoreIs w s p n L) :
    Calls Try.prog 20 #[.pointer (some ⟨s, 0, none⟩), .int .i64 i, .string ⟨T.toArray⟩] w fun e w' => e = .returned (.int .i64 (writeE n i T)) ∧ StoreIs w' s p n (writeL n L i T) ∧ Apart p w w' := by
  have hsz := text_size T
  obtain ⟨t, ht⟩ : ∃ t : ByteArray, t = ⟨T.toArray⟩ := ⟨_, rfl⟩
  rw [← ht] at hsz ⊢
  have HT : Hid (t = ⟨T.toArray⟩) := ht
  clear ht
  cases h1 : hasP n i with
  | false =>
    have HB : Hid (writeL n L i T = L) := writeL_no h1
    have HE : Hid (writeE n i T = 1) := writeE_no h1
    have H1 : Hid (hasP n i = false) := h1
    clear h1
    go_enter Try.func20, Try.ntmps20
    go_wp2_with fail
    refine (shas _ _ n L i _ h).mono ?_
    rintro e w' ⟨rfl, rfl⟩
    rw [H1.out]
    go_wp2_with fail
    go_ret
    exact ⟨by rw [HE.out]; rfl, by rw [HB.out]; exact h, Apart.refl _ _⟩
  | true =>
    have H1 : Hid (hasP n i = true) := h1
    by_cases hT : T.length = 16
    · obtain ⟨k, rfl, hk⟩ := hasP_true h1
      have HB : Hid (writeL n L k T = splice L (k * 16) T) := writeL_ok h1 hT
      have HE : Hid (writeE n k T = 0) := writeE_ok h1 hT
      rw [hT] at hsz
      clear h1
      go_enter Try.func20, Try.ntmps20
      go_wp2_with fail
      refine (shas _ _ n L k _ h).mono ?_
      rintro e w' ⟨rfl, rfl⟩
      rw [H1.out]
      go_upto_region 3 with fail
      go_cut [7] (fun s7 wx => ∃ b, s7 = .pointer (some ⟨b, 0, none⟩) ∧ RowAt wx b 53 (List.replicate 16 (.int .u8 0)) ∧ b ≠ p ∧ w'.heap.size ≤ b ∧ StoreIs wx s p n L ∧ Apart p w' wx)
      case first =>
        go_wp2_with fail
        go_meet
        have hlt := h.lt
        exact ⟨_, rfl, RowAt.new w' _ 53, by omega, Nat.le_refl _, h.apart (q := w'.heap.size) (Apart.ofBelow (below_alloc _ _)) (by omega) (by omega), Apart.ofBelow (below_alloc _ _)⟩
      case rest =>
        obtain ⟨b, rfl, hb, hbp, hbs, hs, hap⟩ := hcut
        clear h
        go_wp2_with (first | (refine wpList_copy_text rfl (.tmp 17) (.tmp 18) 41 9 rfl 5 Try.underlying41 size5 b 0 16 16 T (by simp [Act.eval]) (by simp [Act.eval, HT.out]) hT (List.replicate 16 (.int .u8 0)) 53 hb (by simp [hT]) ?_; intro w2 hg2 hb2) | (refine wpList_load_mid rfl 53 (.tmp 7) rfl b 0 rfl (bc T) _ (range_new hT hg2.out) Try.underlying53 rfl (size53_of hT) ?_))
        have hlt := hs.lt
        refine (slay _ _ n k L T _ (hs.apart (Apart.ofBut hb2) ?_ (Ne.symm hbp)) hk hT).mono ?_
        · intro e
          have h1 := hs.h
          unfold RowAt at hb h1
          rw [e] at h1
          rw [h1] at hb
          cases hb
        rintro e w3 ⟨rfl, h3, h4⟩
        go_wp2_with fail
        go_ret
        have hap2 : Apart p w' w2 := ⟨hb2.os.trans hap.os, hb2.tape.trans hap.tape, hb2.output.trans hap.output, by rw [hb2.size]; exact hap.size, fun q hq hn => (hb2.block q (by omega)).trans (hap.block q hq hn)⟩
        exact ⟨by rw [HE.out]; rfl, by rw [HB.out]; exact h3, hap2.trans h4⟩
    · have HB : Hid (writeL n L i T = L) := writeL_no2 hT
      have HE : Hid (writeE n i T = 1) := writeE_no2 hT
      clear h1
      go_enter Try.func20, Try.ntmps20
      go_wp2_with fail
      refine (shas _ _ n L i _ h).mono ?_
      rintro e w' ⟨rfl, rfl⟩
      rw [H1.out]
      go_wp2_with fail
      go_ret
      exact ⟨by rw [HE.out]; rfl, by rw [HB.out]; exact h, Apart.refl _ _⟩

theorem moveE_no1 {n : Nat} {i j : Int} (h : hasP n i = false) : moveE n i j = 1 := by simp [moveE, h]
theorem moveE_no2 {n : Nat} {i j : Int} (h : hasP n j = false) : moveE n i j = 1 := by simp [moveE, h]
theorem moveE_ok {n : Nat} {i j : Int} (h : hasP n i = true) (h' : hasP n j = true) : moveE n i j = 0 := by simp [moveE, h, h']
theorem moveL_no1 {n : Nat} {L : List UInt8} {i j : Int} (h : hasP n i = false) : moveL n L i j = L := by simp [moveL, h]
theorem moveL_no2 {n : Nat} {L : List UInt8} {i j : Int} (h : hasP n j = false) : moveL n L i j = L := by simp [moveL, h]
theorem moveL_same {n : Nat} {L : List UInt8} {i : Int} : moveL n L i i = L := by simp [moveL]
theorem moveL_ok {n : Nat} {L : List UInt8} {i j : Int} (h : hasP n i = true) (h' : hasP n j = true) (hne : i ≠ j) : moveL n L i j = writeL n (writeL n L j (pgOf L i.toNat)) i noughts := by simp [moveL, h, h', hne]

set_option maxHeartbeats 1000000 in
theorem smove (s p n : Nat) (L : List UInt8) (i j : Int) (w : World) (h : StoreIs w s p n L) :
    Calls Try.prog 22 #[.pointer (some ⟨s, 0, none⟩), .int .i64 i, .int .i64 j] w fun e w' => e = .returned (.int .i64 (moveE n i j)) ∧ StoreIs w' s p n (moveL n L i j) ∧ Apart p w w' := by
  have hc := h.cell
  have hle := h.le
  cases h1 : hasP n i with
  | false =>
    have HB : Hid (moveL n L i j = L) := moveL_no1 h1
    have HE : Hid (moveE n i j = 1) := moveE_no1 h1
    have H1 : Hid (hasP n i = false) := h1
    clear h1
    go_enter Try.func22, Try.ntmps22
    go_wp2_with fail
    refine (shas _ _ n L i _ h).mono ?_
    rintro e w' ⟨rfl, rfl⟩
    rw [H1.out]
    go_wp2_with fail
    go_ret
    exact ⟨by rw [HE.out]; rfl, by rw [HB.out]; exact h, Apart.refl _ _⟩
  | true =>
    have H1 : Hid (hasP n i = true) := h1
    cases h2 : hasP n j with
    | false =>
      have HB : Hid (moveL n L i j = L) := moveL_no2 h2
      have HE : Hid (moveE n i j = 1) := moveE_no2 h2
      have H2 : Hid (hasP n j = false) := h2
      clear h1 h2
      go_enter Try.func22, Try.ntmps22
      go_wp2_with fail
      refine (shas _ _ n L i _ h).mono ?_
      rintro e w' ⟨rfl, rfl⟩
      rw [H1.out]
      go_wp2_with fail
      refine (shas _ _ n L j _ h).mono ?_
      rintro e w' ⟨rfl, rfl⟩
      rw [H2.out]
      go_wp2_with fail
      go_ret
      exact ⟨by rw [HE.out]; rfl, by rw [HB.out]; exact h, Apart.refl _ _⟩
    | true =>
      have H2 : Hid (hasP n j = true) := h2
      have HE : Hid (moveE n i j = 0) := moveE_ok h1 h2
      by_cases hij : i = j
      · subst hij
        have HB : Hid (moveL n L i i = L) := moveL_same
        have hb : (i == i) = true := by simp
        clear h1 h2
        go_enter Try.func22, Try.ntmps22
        go_wp2_with fail
        refine (shas _ _ n L i _ h).mono ?_
        rintro e w' ⟨rfl, rfl⟩
        rw [H1.out]
        go_wp2_with fail
        refine (shas _ _ n L i _ h).mono ?_
        rintro e w' ⟨rfl, rfl⟩
        rw [H2.out]
        go_wp2_with fail
        go_ret
        exact ⟨by rw [HE.out]; rfl, by rw [HB.out]; exact h, Apart.refl _ _⟩
      · have hb : (i == j) = false := by simp [hij]
        have HB : Hid (moveL n L i j = writeL n (writeL n L j (pgOf L i.toNat)) i noughts) := moveL_ok h1 h2 hij
        obtain ⟨k, rfl, hk⟩ := hasP_true h1
        obtain ⟨m, rfl, hm⟩ := hasP_true h2
        rw [Int.toNat_natCast] at HB
        obtain ⟨A, hA⟩ : ∃ A, A = pgOf L k := ⟨_, rfl⟩
        have hAl : A.length = 16 := by rw [hA]; exact pgOf_len h.len hk
        rw [← hA] at HB
        have HR : Hid (w.rangeAt p (k * 16) (bc A)) := by
          have := h.range k
          rw [hA]
          exact this
        have HW : Hid (writeL n L m A = splice L (m * 16) A) := writeL_ok h2 hAl
        have HC : Hid (writeE n k noughts = 0) := writeE_ok h1 noughts_len
        clear h1 h2 hA
        go_enter Try.func22, Try.ntmps22
        go_wp2_with fail
        refine (shas _ _ n L k _ h).mono ?_
        rintro e w' ⟨rfl, rfl⟩
        rw [H1.out]
        go_wp2_with fail
        refine (shas _ _ n L m _ h).mono ?_
        rintro e w' ⟨rfl, rfl⟩
        rw [H2.out]
        go_wp2_with (refine wpList_load_mid rfl 53 (.tmp 27) rfl p (k * 16) rfl (bc A) _ HR.out Try.underlying53 rfl (size53_of hAl) ?_)
        refine (slay _ _ n m L A _ h hm hAl).mono ?_
        rintro e w3 ⟨rfl, h3, h4⟩
        rw [← HW.out] at h3
        go_wp2_with fail
        refine (sclear _ _ n _ k _ h3).mono ?_
        rintro e w4 ⟨rfl, h5, h6⟩
        go_wp2_with fail
        go_ret
        exact ⟨by rw [HE.out, HC.out]; rfl, by rw [HB.out]; exact h5, h4.trans h6⟩

def zero53 : Value := .agg (List.replicate 16 (Value.int .u8 0)).toArray
theorem info53 : (Try.prog.info? 53).map (fun i => (i.zero, i.size, i.bytes)) = some (some zero53, 16, 16) := by kernel_rfl

theorem store_made (w w1 : World) (k : Nat) (hk : k ≤ 1024) (hr : RowAt w1 w.heap.size 53 (List.replicate (k * 16) (.int .u8 0))) (hz : w1.heap.size = w.heap.size + 1) (hb : Below w.heap.size w w1) :
    StoreIs (w1.alloc (.cells #[.slice (some ⟨w.heap.size, 0, none⟩) k k] 50)) w1.heap.size w.heap.size k (List.replicate (k * 16) 0) ∧ Below w.heap.size w (w1.alloc (.cells #[.slice (some ⟨w.heap.size, 0, none⟩) k k] 50)) := by
  refine ⟨⟨RowAt.new _ _ _, ?_, by simp, hk, by omega⟩, hb.trans ((below_alloc _ _).mono (by omega))⟩
  rw [← bc_replicate]
  exact hr.alloc _

/-- A store that has just been made. -/
def Made (w : World) (k : Nat) (e : Ending) (w' : World) : Prop :=
  ∃ s p, e = .returned (.pointer (some ⟨s, 0, none⟩)) ∧ StoreIs w' s p k (List.replicate (k * 16) 0) ∧ w.heap.size ≤ p ∧ w.heap.size ≤ s ∧ Below w.heap.size w w'

set_option maxHeartbeats 1000000 in
theorem snew (x : Int) (k : Nat) (w : World) (hk : x < 0 ∧ k = 0 ∨ x = k ∧ k ≤ 1024 ∨ 1024 < x ∧ k = 1024) :
    Calls Try.prog 8 #[.int .i64 x] w fun e w' => Made w k e w' := by
  have h2 : k ≤ 1024 := by omega
  have HF : Hid _ := fun w1 hr hz hb => store_made w w1 k (by omega) hr hz hb
  rcases hk with ⟨h1, h3⟩ | ⟨rfl, -⟩ | ⟨h1, h3⟩
  · have HK : Hid (k = 0) := h3
    clear h3
    go_enter Try.func8, Try.ntmps8
    go_wp2_with (at_make; refine wpList_make_cells _ rfl (.tmp 5) (.tmp 5) 48 rfl 53 zero53 16 16 (.int .u8 0) Try.underlying48 info53 rfl (by decide) .i64 .i64 _ _ k rfl rfl (by have := HK.out; omega) (by have := HK.out; omega) (by omega) (by omega) ?_; intro w1 hr hz hb)
    go_ret
    obtain ⟨f1, f2⟩ := HF.out w1 hr hz hb
    rw [hz] at f1
    exact ⟨_, w.heap.size, rfl, f1, by omega, by omega, f2⟩
  · go_enter Try.func8, Try.ntmps8
    go_wp2_with (at_make; refine wpList_make_cells _ rfl (.tmp 5) (.tmp 5) 48 rfl 53 zero53 16 16 (.int .u8 0) Try.underlying48 info53 rfl (by decide) .i64 .i64 _ _ k rfl rfl (by omega) (by omega) (by omega) (by omega) ?_; intro w1 hr hz hb)
    all_goals
      go_ret
      obtain ⟨f1, f2⟩ := HF.out w1 hr hz hb
      rw [hz] at f1
      exact ⟨_, w.heap.size, rfl, f1, by omega, by omega, f2⟩
  · have HK : Hid (k = 1024) := h3
    clear h3
    go_enter Try.func8, Try.ntmps8
    go_wp2_with (at_make; refine wpList_make_cells _ rfl (.tmp 5) (.tmp 5) 48 rfl 53 zero53 16 16 (.int .u8 0) Try.underlying48 info53 rfl (by decide) .i64 .i64 _ _ k rfl rfl (by have := HK.out; omega) (by have := HK.out; omega) (by omega) (by omega) ?_; intro w1 hr hz hb)
    go_ret
    obtain ⟨f1, f2⟩ := HF.out w1 hr hz hb
    rw [hz] at f1
    exact ⟨_, w.heap.size, rfl, f1, by omega, by omega, f2⟩
end Go.Proofs.Ytidjbkjbfblknaa
