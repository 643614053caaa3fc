/-
  The laws' own helpers: an act on a store; the document's example holds.
-/
import Derived.Test.YtidjbkjbfblknaaP4
namespace Go.Proofs.Ytidjbkjbfblknaa
open Go.RowKit

/-- An act, as the laws take it. -/
structure Rec where
  K : Int
  I : Int
  At : Int
  B : UInt8
  T : List UInt8
def recCells (r : Rec) : List Value := [.int .i64 r.K, .int .i64 r.I, .int .i64 r.At, bv r.B, .string ⟨r.T.toArray⟩]
def doE (n : Nat) (r : Rec) : Int :=
  if r.K.tmod 4 = 0 then writeE n r.I r.T else if r.K.tmod 4 = 1 then getE n r.I r.At else if r.K.tmod 4 = 2 then moveE n r.I r.At else if r.K.tmod 4 = 3 then writeE n r.I noughts else 0
def doL (n : Nat) (L : List UInt8) (r : Rec) : List UInt8 :=
  if r.K.tmod 4 = 0 then writeL n L r.I r.T else if r.K.tmod 4 = 1 then putL n L r.I r.At r.B else if r.K.tmod 4 = 2 then moveL n L r.I r.At else if r.K.tmod 4 = 3 then writeL n L r.I noughts else L

theorem store_alloc {w : World} {s p n : Nat} {L : List UInt8} (h : StoreIs w s p n L) (o : Obj) : StoreIs (w.alloc o) s p n L := h.below (below_alloc w o) h.lt.1 h.lt.2
theorem apart_alloc {w w' : World} {p : Nat} {o : Obj} (h : Apart p (w.alloc o) w') : Apart p w w' := (Apart.ofBelow (below_alloc w o)).trans h

set_option maxHeartbeats 1000000 in
theorem sdo (s p n : Nat) (L : List UInt8) (r : Rec) (w : World) (h : StoreIs w s p n L) :
    Calls Try.prog 14 #[.pointer (some ⟨s, 0, none⟩), .agg (recCells r).toArray] w fun e w' => e = .returned (.int .i64 (doE n r)) ∧ StoreIs w' s p n (doL n L r) ∧ Apart p w w' := by
  obtain ⟨K, I, At, B, T⟩ := r
  obtain ⟨t, ht⟩ : ∃ t : ByteArray, t = ⟨T.toArray⟩ := ⟨_, rfl⟩
  have hrc : recCells ⟨K, I, At, B, T⟩ = [.int .i64 K, .int .i64 I, .int .i64 At, .int .u8 (B.toNat : Int), .string t] := by rw [ht]; rfl
  rw [hrc]
  have HT : Hid (t = ⟨T.toArray⟩) := ht
  clear ht hrc
  have hst := fun o => store_alloc h o
  by_cases q0 : K.tmod 4 = 0
  · have hb0 : (K.tmod 4 == 0) = true := by simp [q0]
    have HE : Hid (doE n ⟨K, I, At, B, T⟩ = writeE n I T) := by show _ = _; simp [doE, q0]
    have HL : Hid (doL n L ⟨K, I, At, B, T⟩ = writeL n L I T) := by show _ = _; simp [doL, q0]
    clear q0
    go_enter Try.func14, Try.ntmps14
    go_wp2_with fail
    rw [HT.out]
    refine (swrite _ _ n L I T _ (store_alloc h _)).mono ?_
    rintro e w1 ⟨rfl, h1, h2⟩
    go_wp2_with fail
    go_ret
    exact ⟨by rw [HE.out]; rfl, by rw [HL.out]; exact h1, apart_alloc h2⟩
  · have hb0 : (K.tmod 4 == 0) = false := by simp [q0]
    by_cases q1 : K.tmod 4 = 1
    · have hb1 : (K.tmod 4 == 1) = true := by simp [q1]
      have HE : Hid (doE n ⟨K, I, At, B, T⟩ = getE n I At) := by show _ = _; simp [doE, q1]
      have HL : Hid (doL n L ⟨K, I, At, B, T⟩ = putL n L I At B) := by show _ = _; simp [doL, q1]
      clear q0 q1
      go_enter Try.func14, Try.ntmps14
      go_wp2_with fail
      refine (sput _ _ n L I At B _ (store_alloc h _)).mono ?_
      rintro e w1 ⟨rfl, h1, h2⟩
      go_wp2_with fail
      go_ret
      exact ⟨by rw [HE.out]; rfl, by rw [HL.out]; exact h1, apart_alloc h2⟩
    · have hb1 : (K.tmod 4 == 1) = false := by simp [q1]
      by_cases q2 : K.tmod 4 = 2
      · have hb2 : (K.tmod 4 == 2) = true := by simp [q2]
        have HE : Hid (doE n ⟨K, I, At, B, T⟩ = moveE n I At) := by show _ = _; simp [doE, q2]
        have HL : Hid (doL n L ⟨K, I, At, B, T⟩ = moveL n L I At) := by show _ = _; simp [doL, q2]
        clear q0 q1 q2
        go_enter Try.func14, Try.ntmps14
        go_wp2_with fail
        refine (smove _ _ n L I At _ (store_alloc h _)).mono ?_
        rintro e w1 ⟨rfl, h1, h2⟩
        go_wp2_with fail
        go_ret
        exact ⟨by rw [HE.out]; rfl, by rw [HL.out]; exact h1, apart_alloc h2⟩
      · have hb2 : (K.tmod 4 == 2) = false := by simp [q2]
        by_cases q3 : K.tmod 4 = 3
        · have hb3 : (K.tmod 4 == 3) = true := by simp [q3]
          have HE : Hid (doE n ⟨K, I, At, B, T⟩ = writeE n I noughts) := by show _ = _; simp [doE, q3]
          have HL : Hid (doL n L ⟨K, I, At, B, T⟩ = writeL n L I noughts) := by show _ = _; simp [doL, q3]
          clear q0 q1 q2 q3
          go_enter Try.func14, Try.ntmps14
          go_wp2_with fail
          refine (sclear _ _ n L I _ (store_alloc h _)).mono ?_
          rintro e w1 ⟨rfl, h1, h2⟩
          go_wp2_with fail
          go_ret
          exact ⟨by rw [HE.out]; rfl, by rw [HL.out]; exact h1, apart_alloc h2⟩
        · have hb3 : (K.tmod 4 == 3) = false := by simp [q3]
          have HE : Hid (doE n ⟨K, I, At, B, T⟩ = 0) := by show _ = _; simp [doE, q0, q1, q2, q3]
          have HL : Hid (doL n L ⟨K, I, At, B, T⟩ = L) := by show _ = _; simp [doL, q0, q1, q2, q3]
          clear q0 q1 q2 q3
          go_enter Try.func14, Try.ntmps14
          go_wp2_with fail
          go_ret
          exact ⟨by rw [HE.out]; rfl, by rw [HL.out]; exact store_alloc h _, Apart.ofBelow (below_alloc _ _)⟩

theorem doL_len {n : Nat} {L : List UInt8} {r : Rec} (hL : L.length = n * 16) : (doL n L r).length = n * 16 := by
  unfold doL
  repeat' split
  · exact writeL_len hL
  · rw [putL_len]; exact hL
  · exact moveL_len hL
  · exact writeL_len hL
  · exact hL

/-! ### the example -/
theorem ex_put : putL 2 (List.replicate (2 * 16) 0) 1 3 7 = List.replicate 19 0 ++ 7 :: List.replicate 12 0 := by decide
theorem ex_move : moveL 2 (List.replicate 19 0 ++ 7 :: List.replicate 12 0) 1 0 = List.replicate 3 0 ++ 7 :: List.replicate 28 0 := by decide
theorem ex_get0 : getB 2 (List.replicate 3 0 ++ 7 :: List.replicate 28 0) 0 3 = 7 := by decide
theorem ex_get1 : getB 2 (List.replicate 3 0 ++ 7 :: List.replicate 28 0) 1 3 = 0 := by decide

set_option maxHeartbeats 1000000 in
theorem works_any (w : World) : Calls Try.prog 7 #[] w fun e w' => e = .returned (.bool true) ∧ Below w.heap.size w w' := by
  have e1 : getE 2 1 3 = 0 := by decide
  have e2 : moveE 2 1 0 = 0 := by decide
  have e3 : getE 2 0 3 = 0 := by decide
  have E1 : Hid (getE 2 1 3 = 0) := e1
  have E2 : Hid (moveE 2 1 0 = 0) := e2
  have E3 : Hid (getE 2 0 3 = 0) := e3
  clear e1 e2 e3
  go_enter Try.func7, Try.ntmps7
  go_wp2_with fail
  refine (snew 2 2 w (by decide)).mono ?_
  rintro e w1 ⟨s, p, rfl, h1, l1, l2, b1⟩
  go_wp2_with fail
  refine (sput _ _ 2 _ 1 3 7 _ h1).mono ?_
  rintro e w2 ⟨rfl, h2, a2⟩
  rw [ex_put] at h2
  rw [E1.out]
  have b2 := b1.trans (a2.below l1 b1.size)
  clear h1 a2 b1
  go_wp2_with fail
  refine (smove _ _ 2 _ 1 0 _ h2).mono ?_
  rintro e w3 ⟨rfl, h3, a3⟩
  rw [ex_move] at h3
  rw [E2.out]
  have b3 := b2.trans (a3.below l1 b2.size)
  clear h2 a3 b2
  go_wp2_with fail
  refine (sget _ _ 2 _ 0 3 _ h3).mono ?_
  rintro e w4 ⟨rfl, rfl⟩
  rw [ex_get0, E3.out]
  go_wp2_with fail
  refine (sget _ _ 2 _ 1 3 _ h3).mono ?_
  rintro e w4 ⟨rfl, rfl⟩
  rw [ex_get1, E1.out]
  go_wp2_with fail
  refine (slen _ _ 2 _ _ h3).mono ?_
  rintro e w4 ⟨rfl, rfl⟩
  go_wp2_with fail
  go_ret
  exact ⟨rfl, b3⟩
end Go.Proofs.Ytidjbkjbfblknaa
