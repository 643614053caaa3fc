/-
  The function to range over that tells a chain: its contract.
-/
import Derived.RangeFuncNested
import Derived.RangeFuncLeaves
import Derived.RangeFuncBox
import Derived.Shelf.Abstract
import Derived.OwnWalkIn
import Derived.TacticsInMore
import Derived.LoopNIn
import Derived.LoopIn
import Derived.Test.YtbceadnhfihlfaaP1
namespace Go.Proofs.Ytbceadnhfihlfaa
open Go.RowKit Go.Shelf
attribute [local go_sem] Oper.semAt_some

/-- What a round keeps: all that lay below n₀, and the block that holds the tree's address. -/
def Kp (n₀ Bt : Nat) (W W' : World) : Prop := Below n₀ W W' ∧ W'.heap[Bt]? = W.heap[Bt]?
theorem Kp.t {n₀ Bt : Nat} {X Y Z : World} (h : Kp n₀ Bt X Y) (k : Kp n₀ Bt Y Z) : Kp n₀ Bt X Z := ⟨h.1.trans k.1, k.2.trans h.2⟩
theorem Kp.b {n₀ Bt : Nat} {w : World} (hn : n₀ ≤ w.heap.size) (hB : Bt < w.heap.size) (W : World) (l : Nat) (o o' : Obj) (hl : w.heap.size ≤ l) (h : W.heap[l]? = some o) (h1 : o.isCells = false) (h2 : o.isWalk = false) : Kp n₀ Bt W (W.putObj l o') :=
  ⟨belowK_b hn W l o o' hl h h1 h2, World.putObj_heap_other (by omega)⟩

set_option maxRecDepth 100000 in
set_option maxHeartbeats 2000000 in
theorem up1_in (n : Nat) (hn : 1 ≤ n) (l Bg Bt B t : Nat) (G : Gr) (w : World) (hT : TreeIs B w t G) (x0 : Int) (J Jx : List Int → World → Prop)
    (hY : ∀ pre x W, J pre W → pre.length < (chain G x0).length → YieldAt Fence.wide (n - 1) Try.prog l #[.int .i64 x] W fun e W' =>
      (e = .returned (.bool true) ∧ J (pre ++ [x]) W' ∧ Kp w.heap.size Bt W W') ∨ (e = .returned (.bool false) ∧ Jx (pre ++ [x]) W'))
    (W : World) (hW : Below w.heap.size w W) (hg : W.cell? ⟨Bg, 0, none⟩ = some (.int .i64 x0)) (ht : RowAt W Bt 24 [.pointer (some ⟨t, 0, none⟩)]) (h0 : J [] W) :
    CallsIn Fence.wide n Try.prog 35 #[.func (.yield l) #[] #[], .pointer (some ⟨Bg, 0, none⟩), .pointer (some ⟨Bt, 0, none⟩)] W fun e W' => (∃ v, e = .returned v) ∧
      ((∃ ys, ys = chain G x0 ∧ J ys W') ∨ (∃ pre, pre <+: chain G x0 ∧ Jx pre W')) := by
  refine callsIn_of_wp Try.func35 rfl trivial ?_ rfl
  simp only [Try.ntmps35, List.size_toArray, List.length_cons, List.length_nil, Nat.reduceAdd, Nat.reduceSub, Array.replicate_succ, Array.replicate_zero, List.push_toArray, List.append_toArray, List.nil_append, List.cons_append]
  gi_wp2
  gi_loopw [4] (fun s4 wr => ∃ (pre : List Int) (x : Int), s4 = .int .i64 x ∧ chain G x0 = pre ++ chain G x ∧ J pre wr ∧ Below w.heap.size w wr ∧ RowAt wr Bt 24 [.pointer (some ⟨t, 0, none⟩)]) (fun s4 _ => (intOf s4 + 1).toNat)
  case atStart => exact ⟨[], x0, rfl, rfl, h0, hW, ht⟩
  case round =>
    clear hW ht hg h0
    obtain ⟨pre, x, rfl, hx, hJ, hb, ht⟩ := hrel
    have k0 : wr.cell? ⟨Bt, 0, none⟩ = some (.pointer (some ⟨t, 0, none⟩)) := by rw [ht.cell]; rfl
    have hTr := hT.below hb
    cases hl : lv G x with
    | false =>
      have HX : Hid (pre = chain G x0) := by show _ = _; rw [hx, chain_dead hl, List.append_nil]
      have HL : Hid (Calls Try.prog 16 #[.pointer (some ⟨t, 0, none⟩), .int .i64 x] wr fun e w' => e = .returned (.bool false) ∧ w' = wr) := by
        have := plive B t G x wr hTr
        rw [hl] at this
        exact this
      clear hx hl
      gi_wp2_with fail
      refine ⟨trivial, ?_⟩
      gi_at_call 16
      refine (callsIn_wide.2 HL.out).mono ?_
      rintro e w2 ⟨rfl, rfl⟩
      gi_wp2
      go_end0
      exact ⟨⟨_, rfl⟩, .inl ⟨pre, HX.out, hJ⟩⟩
    | true =>
      have hch := chain_live hT.ok hl
      rw [hch] at hx
      obtain ⟨fn, tmps, assign, body, hy, hR⟩ := hY pre x wr hJ (by rw [hx]; simp)
      have HL : Hid (Calls Try.prog 16 #[.pointer (some ⟨t, 0, none⟩), .int .i64 x] wr fun e w' => e = .returned (.bool true) ∧ w' = wr) := by
        have := plive B t G x wr hTr
        rw [hl] at this
        exact this
      have HP : Hid (∀ W, TreeIs B W t G → Calls Try.prog 18 #[.pointer (some ⟨t, 0, none⟩), .int .i64 x] W fun e w' => e = .returned (.int .i64 (pr G x)) ∧ w' = W) := fun W h => by
        have := ppar B t G x W h
        rw [par_live hl] at this
        exact this
      have HX : Hid (chain G x0 = (pre ++ [x]) ++ chain G (pr G x)) := by show _ = _; rw [hx]; simp
      have HM : Hid ((pr G x + 1).toNat < (x + 1).toNat) := by
        show _ < _
        have := lv_lo hl
        by_cases h0 : x = 0
        · subst h0
          rw [hT.ok.root]; omega
        · have := hT.ok.up x hl h0
          omega
      clear hx hl hch
      gi_wp2_with fail
      refine ⟨trivial, ?_⟩
      gi_at_call 16
      refine (callsIn_wide.2 HL.out).mono ?_
      rintro e w2 ⟨rfl, rfl⟩
      gi_wp2_with fail
      refine hR.mono ?_
      rintro e W3 (⟨rfl, hJ3, hk3⟩ | ⟨rfl, hJx3⟩)
      · have hb3 := hb.trans hk3.1
        have ht3 : RowAt W3 Bt 24 [.pointer (some ⟨t, 0, none⟩)] := hk3.2.trans ht
        have k3 : W3.cell? ⟨Bt, 0, none⟩ = some (.pointer (some ⟨t, 0, none⟩)) := by rw [ht3.cell]; rfl
        have hT3 := hT.below hb3
        gi_wp2_with fail
        refine ⟨trivial, ?_⟩
        gi_at_call 18
        refine (callsIn_wide.2 (HP.out _ hT3)).mono ?_
        rintro e w4 ⟨rfl, rfl⟩
        gi_wp2
        exact ⟨⟨pre ++ [x], pr G x, rfl, HX.out, hJ3, hb3, ht3⟩, by simp only [intOf]; exact HM.out⟩
      · gi_wp2
        refine bodyPost_ret (results_none rfl _ _ _) rfl ?_
        exact ⟨⟨_, rfl⟩, .inr ⟨pre ++ [x], ⟨_, HX.out.symm⟩, hJx3⟩⟩
end Go.Proofs.Ytbceadnhfihlfaa
