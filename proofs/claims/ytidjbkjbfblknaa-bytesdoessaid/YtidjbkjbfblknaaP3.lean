/-
  The contract of bytes.lay: a page has these bytes, and nothing else changes.
-/
import Derived.Test.YtidjbkjbfblknaaP2
namespace Go.Proofs.Ytidjbkjbfblknaa
open Go.RowKit

theorem size53 : (Try.prog.info? 53).map (·.size) = some 16 := by kernel_rfl
theorem size5 : (Try.prog.info? 5).map (·.size) = some 1 := by kernel_rfl

theorem splice_same {L : List UInt8} {k : Nat} : splice L (k * 16) (pgOf L k) = L := by
  unfold splice pgOf
  by_cases h : k * 16 + 16 ≤ L.length
  · have : ((L.drop (k * 16)).take 16).length = 16 := by simp; omega
    rw [this, ← List.drop_drop, List.take_append_drop, List.take_append_drop]
  · have e1 : (L.drop (k * 16)).take 16 = L.drop (k * 16) := List.take_of_length_le (by simp; omega)
    rw [e1]
    have e2 : L.drop (k * 16 + (L.drop (k * 16)).length) = [] := by apply List.drop_eq_nil_of_le; simp; omega
    rw [e2]; simp

/-- A whole array read out of the middle of a block, in a region that only reads. -/
theorem wpQuiet_load_mid {P : Program} {ops : Array Oper} {C : World → Prop} {Q : Act → Prop} {a : Act} {o : Oper} {rest : List Oper} (hw : Region.wanted o (yielded ops a.tmps) = true) (ty : TypeId) (x : Operand) (ho : o.op = .load ty x)
    (b off : Nat) (hx : a.eval x = .pointer (some ⟨b, off, none⟩)) (cs : List Value) (d : TypeDesc) (hC : ∀ w, C w → w.rangeAt b off cs)
    (hu : P.underlying ty = some d) (hd : d.isRow = true) (hi : (P.info? ty).map (·.size) = some cs.length)
    (h : wpQuiet P ops C Q rest (a.put o.dst (.agg cs.toArray))) : wpQuiet P ops C Q (o :: rest) a :=
  BigFrame.wpQuiet_want hw fun _ hK => ⟨.agg cs.toArray, fun w hw' => by
    unfold Oper.quietAt execOp
    simp only [ho, hx, Instr.loadAt, Instr.sureAddr, Sem.run_bind, Sem.run_pure, Result.andThen_ok, run_loadVar_mid w b off ty cs d (hC w hw') hu hd hi]
    exact ⟨rfl, rfl⟩, hK _ h⟩

set_option maxHeartbeats 1000000 in
theorem slay (s p n k : Nat) (L T : List UInt8) (w : World) (h : StoreIs w s p n L) (hk : k < n) (hT : T.length = 16) :
    Calls Try.prog 27 #[.pointer (some ⟨s, 0, none⟩), .int .i64 k, .agg (bc T).toArray] w fun e w' => e = .returned (.tuple #[]) ∧ StoreIs w' s p n (splice L (k * 16) T) ∧ Apart p w w' := by
  have hle := h.le
  go_enter Try.func27, Try.ntmps27
  go_upto_region 0 with fail
  go_cut [5] (fun s5 wx => ∃ b, s5 = .pointer (some ⟨b, 0, none⟩) ∧ RowAt wx b 53 (bc T) ∧ b ≠ p ∧ StoreIs wx s p n L ∧ Apart p w wx)
  case first =>
    go_wp2
    go_meet
    have hlt := h.lt
    exact ⟨_, rfl, by simpa using RowAt.new w (bc T).toArray 53, by omega, h.apart (q := w.heap.size) (Apart.ofBelow (below_alloc _ _)) (by omega) (by omega), Apart.ofBelow (below_alloc _ _)⟩
  case rest =>
    obtain ⟨b, rfl, hb, hbp, hs, hap⟩ := hcut
    clear h
    have hc := hs.cell
    obtain ⟨A, hA⟩ : ∃ A, A = pgOf L k := ⟨_, rfl⟩
    have hAl : A.length = 16 := by rw [hA]; exact pgOf_len hs.len hk
    have hr1 : ∀ m, (wc.drewN m).rangeAt p (k * 16) (bc A) := fun m => by rw [hA]; exact hs.range k
    have hr2 : ∀ m, (wc.drewN m).rangeAt b 0 (bc T) := fun m j v hv => by
      rw [Nat.zero_add]; rw [(hb.drewN m).cell]; exact hv
    have hq : ∀ w, (Op.equalIn 10000 53 (.agg (bc A).toArray) (.agg (bc T).toArray)).run Try.prog w = .ok (A == T) w := fun w => eq53 w A T hAl hT
    have hgt : Try.prog.eqGuardType Try.prog.depth 53 = false := by kernel_rfl
    have hr1' : ∀ w', (∃ m, w' = wc.drewN m) → w'.rangeAt p (k * 16) (bc A) := fun w' ⟨m, hm⟩ => by rw [hm]; exact hr1 m
    have hr2' : ∀ w', (∃ m, w' = wc.drewN m) → w'.rangeAt b 0 (bc T) := fun w' ⟨m, hm⟩ => by rw [hm]; exact hr2 m
    have HR1 : Hid (∀ w', (∃ m, w' = wc.drewN m) → w'.rangeAt p (k * 16) (bc A)) := hr1'
    have HR2 : Hid (∀ w', (∃ m, w' = wc.drewN m) → w'.rangeAt b 0 (bc T)) := hr2'
    clear hr1 hr2 hr1' hr2'
    have HA : Hid (A = pgOf L k) := hA
    clear hA
    cases he : (A == T) with
    | true =>
      rw [he] at hq
      go_wp2
      refine wp_region_quiet_lit (by kernel_rfl) (by kernel_rfl) ?_
      iterate 6 go_big_quiet_step (fail)
      refine wpQuiet_load_mid rfl 53 (.tmp 11) rfl p (k * 16) rfl (bc A) _ HR1.out Try.underlying53 rfl (by rw [size53, bc_length, hAl]) ?_
      refine wpQuiet_load_mid rfl 53 (.tmp 5) rfl b 0 rfl (bc T) _ HR2.out Try.underlying53 rfl (by rw [size53, bc_length, hT]) ?_
      simp only [Act.put, List.setIfInBounds_toArray, List.set_cons_succ, List.set_cons_zero]
      go_big_quiet_step (fail)
      refine wpQuiet_nil ?_
      intro _ hw'
      obtain ⟨nq, hw''⟩ := hw'
      subst hw''
      clear hq
      have HX : Hid (splice L (k * 16) T = L) := by
        show _ = _
        rw [← (by simpa using he : A = T), HA.out]
        exact splice_same
      clear he
      go_wp2
      go_end0
      exact ⟨rfl, by rw [HX.out]; exact hs.drewN _, ⟨hap.os, hap.tape, hap.output, hap.size, hap.block⟩⟩
    | false =>
      rw [he] at hq
      go_wp2
      refine wp_region_quiet_lit (by kernel_rfl) (by kernel_rfl) ?_
      iterate 6 go_big_quiet_step (fail)
      refine wpQuiet_load_mid rfl 53 (.tmp 11) rfl p (k * 16) rfl (bc A) _ HR1.out Try.underlying53 rfl (by rw [size53, bc_length, hAl]) ?_
      refine wpQuiet_load_mid rfl 53 (.tmp 5) rfl b 0 rfl (bc T) _ HR2.out Try.underlying53 rfl (by rw [size53, bc_length, hT]) ?_
      simp only [Act.put, List.setIfInBounds_toArray, List.set_cons_succ, List.set_cons_zero]
      go_big_quiet_step (fail)
      refine wpQuiet_nil ?_
      intro _ hw'
      obtain ⟨nq, hw''⟩ := hw'
      subst hw''
      clear hq he
      have HS : Hid (∀ j v, (bc T)[j]? = some v → wc.cell? ((⟨b, 0, none⟩ : Addr).add j) = some v) := fun j v hv => by
        rw [Addr.add_mid, Nat.zero_add, hb.cell]; exact hv
      have HL : Hid ((bc T).length = Nat.min 16 16) := by show _ = _; rw [bc_length, hT]; rfl
      have HF : Hid (k * 16 + (bc T).length ≤ (bc L).length) := by show _ ≤ _; rw [bc_length, bc_length, hT, hs.len]; omega
      go_wp2
      go_region_law (refine step_copy_but rfl (.tmp 21) (.tmp 22) 41 41 rfl 5 Try.underlying41 size5 p (k * 16) 16 16 ⟨b, 0, none⟩ 16 16 (by simp [Act.eval, Act.put]) (by simp [Act.eval, Act.put]) (bc L) 53 hs.c (bc T) HL.out HS.out HF.out (bc_one T) ?_; intro w4 hg4 hb4)
      all_goals
        go_end0
        have hc4 := hg4.out
        rw [bc_splice] at hc4
        have hap' : Apart p w (wc.drewN (nq + 1)) := ⟨hap.os, hap.tape, hap.output, hap.size, hap.block⟩
        exact ⟨rfl, ⟨(hs.h.drewN _).but hb4 hs.ne, hc4, by rw [length_splice _ _ _ (by rw [hT, hs.len]; omega), hs.len], hs.le, hs.ne⟩, hap'.trans (Apart.ofBut hb4)⟩

/-! ### what Write, Clear and Move leave -/
def writeE (n : Nat) (i : Int) (T : List UInt8) : Int := if hasP n i && T.length == 16 then 0 else 1
def writeL (n : Nat) (L : List UInt8) (i : Int) (T : List UInt8) : List UInt8 := if hasP n i && T.length == 16 then splice L (i.toNat * 16) T else L
def noughts : List UInt8 := List.replicate 16 0
def moveE (n : Nat) (i j : Int) : Int := if hasP n i && hasP n j then 0 else 1
def moveL (n : Nat) (L : List UInt8) (i j : Int) : List UInt8 :=
  if hasP n i && hasP n j then (if i = j then L else writeL n (writeL n L j (pgOf L i.toNat)) i noughts) else L
theorem writeL_no {n : Nat} {L : List UInt8} {i : Int} {T : List UInt8} (h : hasP n i = false) : writeL n L i T = L := by simp [writeL, h]
theorem writeL_no2 {n : Nat} {L : List UInt8} {i : Int} {T : List UInt8} (h : T.length ≠ 16) : writeL n L i T = L := by simp [writeL, h]
theorem writeL_ok {n : Nat} {L : List UInt8} {k : Nat} {T : List UInt8} (h : hasP n k = true) (hT : T.length = 16) : writeL n L k T = splice L (k * 16) T := by simp [writeL, h, hT]
theorem writeE_no {n : Nat} {i : Int} {T : List UInt8} (h : hasP n i = false) : writeE n i T = 1 := by simp [writeE, h]
theorem writeE_no2 {n : Nat} {i : Int} {T : List UInt8} (h : T.length ≠ 16) : writeE n i T = 1 := by simp [writeE, h]
theorem writeE_ok {n : Nat} {i : Int} {T : List UInt8} (h : hasP n i = true) (hT : T.length = 16) : writeE n i T = 0 := by simp [writeE, h, hT]
theorem noughts_len : noughts.length = 16 := rfl
theorem writeL_len {n : Nat} {L : List UInt8} {i : Int} {T : List UInt8} (hL : L.length = n * 16) : (writeL n L i T).length = n * 16 := by
  unfold writeL
  split
  · rename_i h
    simp at h
    obtain ⟨k, rfl, hk⟩ := hasP_true h.1
    rw [length_splice _ _ _ (by simp [h.2]; omega)]
    exact hL
  · exact hL
theorem moveL_len {n : Nat} {L : List UInt8} {i j : Int} (hL : L.length = n * 16) : (moveL n L i j).length = n * 16 := by
  unfold moveL
  split
  · split
    · exact hL
    · exact writeL_len (writeL_len hL)
  · exact hL

theorem sclear (s p n : Nat) (L : List UInt8) (i : Int) (w : World) (h : StoreIs w s p n L) :
    Calls Try.prog 24 #[.pointer (some ⟨s, 0, none⟩), .int .i64 i] w fun e w' => e = .returned (.int .i64 (writeE n i noughts)) ∧ StoreIs w' s p n (writeL n L i noughts) ∧ Apart p w w' := by
  cases h1 : hasP n i with
  | false =>
    have HB : Hid (writeL n L i noughts = L) := writeL_no h1
    have HE : Hid (writeE n i noughts = 1) := writeE_no h1
    have H1 : Hid (hasP n i = false) := h1
    clear h1
    go_enter Try.func24, Try.ntmps24
    go_wp2_with fail
    refine (shas _ _ n L i _ h).mono ?_
    rintro e w' ⟨rfl, rfl⟩
    rw [H1.out]
    go_wp2_with fail
    go_ret
    exact ⟨by rw [HE.out]; rfl, by rw [HB.out]; exact h, Apart.refl _ _⟩
  | true =>
    have H1 : Hid (hasP n i = true) := h1
    obtain ⟨k, rfl, hk⟩ := hasP_true h1
    have HB : Hid (writeL n L k noughts = splice L (k * 16) noughts) := writeL_ok h1 noughts_len
    have HE : Hid (writeE n k noughts = 0) := writeE_ok h1 noughts_len
    clear h1
    go_enter Try.func24, Try.ntmps24
    go_wp2_with fail
    refine (shas _ _ n L k _ h).mono ?_
    rintro e w' ⟨rfl, rfl⟩
    rw [H1.out]
    go_wp2_with fail
    refine (slay _ _ n k L noughts _ h hk noughts_len).mono ?_
    rintro e w2 ⟨rfl, h2, h3⟩
    go_wp2_with fail
    go_ret
    exact ⟨by rw [HE.out]; rfl, by rw [HB.out]; exact h2, h3⟩
end Go.Proofs.Ytidjbkjbfblknaa
