/-
  Append to a slice that has no room; the contract of Add.
-/
import Derived.Test.YtagobeoabkbhaaaP10
import Derived.Deep.RegionLaw
namespace Go.Proofs.Ytagobeoabkbhaaa
open Go.RowKit

/-- append to a slice that has no room. -/
theorem run_append_full (w : World) (B : Nat) (a : Option Addr) (A : List Rg) (hA : Regs w a A.length A) (b off c2 : Nat) (M : List Rg) (hM : Regs w (some ⟨b, off, none⟩) c2 M) (hm : 0 < M.length) (ty : TypeId)
    (hn : A.length + M.length ≤ 1000000) (hB : B ≤ w.heap.size) :
    ∃ g a' c' w', (Builtin.append_ #[22, 22] ty #[.slice a A.length A.length, .slice (some ⟨b, off, none⟩) M.length c2]).run Try.prog w = .ok (.slice a' (A.length + M.length) c') w' ∧ OwnL w' B (some g) a' c' (A ++ M) ∧ w.grownBy w' none ∧ w.heap.size ≤ g := by
  by_cases h0 : A = []
  · subst h0
    obtain ⟨o', a', c', w', h1, h2, h3, h4⟩ := run_append_regs w B none a 0 [] (OwnL.nil _ _ _) (some ⟨b, off, none⟩) c2 M hM ty hn hB
    rcases h4 with rfl | ⟨g, rfl, hg⟩
    · obtain ⟨-, h6⟩ := h2
      rw [List.nil_append] at h6
      rw [h6] at hm
      simp at hm
    · exact ⟨g, a', c', w', h1, h2, h3, hg⟩
  · obtain ⟨i, hi, hz0, hz1, hz2⟩ := info_parts info25
    have hA0 : 0 < A.length := List.length_pos_iff.2 h0
    obtain ⟨b0, off0, rfl, -⟩ := hA.at' 0 hA0
    have hlen : (flat A ++ flat M).length = (A.length + M.length) * 6 := by rw [List.length_append, flat_len, flat_len]; omega
    have hr := run_append_grow (P := Try.prog) w 22 ty 25 i _ Try.underlying22 hi hz0 ⟨b0, off0, none⟩ A.length A.length (flat A) (by rw [hz1, flat_len]) (regs_cells hA) ⟨b, off, none⟩ M.length c2 (flat M) (by rw [hz1, flat_len]) (regs_cells hM) (by omega) (by omega) (growslice_fits (by omega) (by rw [hz2]; omega))
    have hge := grownCap_ge w (A.length + M.length) A.length 25
    have hcm : grownCap w (A.length + M.length) A.length 25 ≤ maxLen := grownCap_le_maxLen w (A.length + M.length) A.length 25 (by unfold maxLen; omega)
    have hzz : (Value.cells (.agg #[.int .i64 0, .int .i64 0, .int .i64 0, .int .i64 0, .int .i64 0, .bool false])).size = 6 := rfl
    refine ⟨w.heap.size, _, _, _, hr, ⟨hB, rfl, by simpa using hge, hcm, _, heap_alloc_new w.drew _, ?_, ?_⟩, ⟨rfl, rfl, rfl, by simp, fun k hk _ => Below.heap_alloc w.drew _ k hk⟩, Nat.le_refl _⟩
    · simp only [Array.size_append, List.size_toArray, size_zeroCells, hzz, flat_len, ← Nat.add_mul]
      congr 1
      omega
    · simp only [Array.toList_append, List.append_assoc]
      rw [← List.append_assoc, flat_append, List.length_append, ← hlen]
      exact List.take_left

/-- Both as one step of a region that draws. -/
theorem step_append_full {ops : Array Oper} {op : Oper} {a : Act} {w : World} {K : Act → World → Prop} {Q : Exit → Act → World → Prop} {E : Prop} (hg : op.guard = none) (s x : Operand)
    (ho : op.op = .call { callee := .builtin .append, args := #[s, x], argTypes := #[22, 22] }) (B : Nat) (ad : Option Addr) (n c : Nat) (A : List Rg) (b off c2 m : Nat) (M : List Rg)
    (hs : a.eval s = .slice ad n c) (hn1 : n = A.length) (hc1 : c = A.length) (hA : Regs w ad A.length A) (hx : a.eval x = .slice (some ⟨b, off, none⟩) m c2) (hm : m = M.length) (hM : Regs w (some ⟨b, off, none⟩) c2 M) (hm0 : 0 < M.length) (hn : A.length + M.length ≤ 1000000) (hB : B ≤ w.heap.size)
    (hK : ∀ g a' c' N w', Hid (N = A ++ M) → OwnL w' B (some g) a' c' N → w.grownBy w' none → w.heap.size ≤ g → K (a.put op.dst (.slice a' N.length c')) w') :
    if Region.wanted op (yielded ops a.tmps) = true then Oper.wp Try.prog op a w K Q else E := by
  have hw : Region.wanted op (yielded ops a.tmps) = true := by simp [Region.wanted, hg]
  rw [if_pos hw]
  subst hm
  subst hn1
  subst hc1
  obtain ⟨g, a', c', w', hr, h1, h2, h3⟩ := run_append_full w B ad A hA b off c2 M hM hm0 op.type hn hB
  have := hK g a' c' (A ++ M) w' rfl h1 h2 h3
  rw [List.length_append] at this
  unfold Oper.wp execOp
  simp only [ho, resolve, invoke, builtin, Sem.run_bind, Sem.run_pure, Result.andThen_ok, List.map_toArray, List.map_cons, List.map_nil, hs, hx, hr]
  exact this
theorem step_append_regs {ops : Array Oper} {op : Oper} {a : Act} {w : World} {K : Act → World → Prop} {Q : Exit → Act → World → Prop} {E : Prop} (hg : op.guard = none) (s x : Operand)
    (ho : op.op = .call { callee := .builtin .append, args := #[s, x], argTypes := #[22, 22] }) (B : Nat) (o : Option Nat) (ad : Option Addr) (cap : Nat) (L : List Rg) (a2 : Option Addr) (c2 m : Nat) (M : List Rg)
    (hs : a.eval s = .slice ad L.length cap) (hown : OwnL w B o ad cap L) (hx : a.eval x = .slice a2 m c2) (hm : m = M.length) (hM : Regs w a2 c2 M) (hn : L.length + M.length ≤ 1000000) (hB : B ≤ w.heap.size)
    (hK : ∀ o' a' c' N w', Hid (N = L ++ M) → OwnL w' B o' a' c' N → w.grownBy w' o → K (a.put op.dst (.slice a' N.length c')) w') :
    if Region.wanted op (yielded ops a.tmps) = true then Oper.wp Try.prog op a w K Q else E := by
  have hw : Region.wanted op (yielded ops a.tmps) = true := by simp [Region.wanted, hg]
  rw [if_pos hw]
  subst hm
  obtain ⟨o', a', c', w', hr, h1, h2, -⟩ := run_append_regs w B o ad cap L hown a2 c2 M hM op.type hn hB
  have := hK o' a' c' (L ++ M) w' rfl h1 h2
  rw [List.length_append] at this
  unfold Oper.wp execOp
  simp only [ho, resolve, invoke, builtin, Sem.run_bind, Sem.run_pure, Result.andThen_ok, List.map_toArray, List.map_cons, List.map_nil, hs, hx, hr]
  exact this

/-- A list's beginning and rest. -/
theorem Regs.take {w : World} {a : Option Addr} {cap m : Nat} {L : List Rg} (h : Regs w a cap L) (hm : m ≤ L.length) : Regs w a (L.take m).length (L.take m) := by
  refine ⟨Nat.le_refl _, fun e => ?_, fun j hj => ?_⟩
  · have := h.nil e
    have := h.le
    simp; omega
  · have hj' : j < m := by simpa [hm] using (by simp at hj; omega : j < m)
    obtain ⟨b, off, e, h1⟩ := h.at' j (by omega)
    exact ⟨b, off, e, by rw [List.getElem_take]; exact h1⟩
theorem Regs.drop {w : World} {b off cap m : Nat} {L : List Rg} (h : Regs w (some ⟨b, off, none⟩) cap L) : Regs w (some ⟨b, off + m * 6, none⟩) (cap - m) (L.drop m) := by
  refine ⟨by have := h.le; simp; omega, fun e => (by cases e), fun j hj => ?_⟩
  have hj' : m + j < L.length := by simp at hj; omega
  obtain ⟨b', off', e, h1⟩ := h.at' (m + j) hj'
  have e'' := Option.some.inj e
  injection e'' with e1 e2
  subst e1
  subst e2
  refine ⟨b, off + m * 6, rfl, ?_⟩
  rw [List.getElem_drop]
  have e3 : off + m * 6 + j * 6 = off + (m + j) * 6 := by omega
  rw [e3]
  exact h1
end Go.Proofs.Ytagobeoabkbhaaa
