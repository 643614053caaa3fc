/-
  Contracts of copied and Clone.
-/
import Derived.Test.YtaecacbapeogdaaK1
namespace Go.Proofs.Ytaecacbapeogdaa
open Go.RowKit

def halfRow (N M : Nds) (T : Tab) (k q i : Nat) : List Value := nodeRow (fun j => if j < i then M (k + 1) (16 * q + j) else N (k + 1) (16 * q + j)) (fun j => wd T (k + 1) (16 * q + j))
theorem row_one (o : Nat → Option Nat) (x : Nat → Option Int) : ∀ v ∈ nodeRow o x, v.oneCell' = true := by
  intro v hv
  unfold nodeRow at hv
  obtain ⟨i, -, hi⟩ := List.mem_flatMap.1 hv
  simp [place] at hi
  rcases hi with rfl | rfl | rfl <;> rfl

theorem half_zero (N M : Nds) (T : Tab) (k q : Nat) : halfRow N M T k q 0 = nodeCells N T k q := nodeRow_congr fun j _ => ⟨by simp, rfl⟩
theorem half_all (N M : Nds) (T : Tab) (k q : Nat) : halfRow N M T k q 16 = nodeCells M T k q := nodeRow_congr fun j hj => ⟨by simp [hj], rfl⟩
theorem half_none {N M : Nds} {T : Tab} {k q i : Nat} (h1 : N (k + 1) (16 * q + i) = none) (h2 : M (k + 1) (16 * q + i) = none) : halfRow N M T k q i = halfRow N M T k q (i + 1) := by
  refine nodeRow_congr fun j _ => ⟨?_, rfl⟩
  by_cases e : j = i
  · subst e; simp [h1, h2]
  · by_cases hj : j < i
    · simp [hj, show j < i + 1 by omega]
    · simp [hj, show ¬ j < i + 1 by omega]
theorem half_some {N M M2 : Nds} {T : Tab} {k q i c1 : Nat} (hi : i < 16) (h1 : ∀ i', i' < i → M2 (k + 1) (16 * q + i') = M (k + 1) (16 * q + i')) (h2 : M2 (k + 1) (16 * q + i) = some c1) :
    (halfRow N M T k q i).set (i * 3) (.pointer (some ⟨c1, 0, none⟩)) = halfRow N M2 T k q (i + 1) := by
  have := nodeRow_ptr (o := fun j => if j < i then M (k + 1) (16 * q + j) else N (k + 1) (16 * q + j)) (x := fun j => wd T (k + 1) (16 * q + j)) hi (some c1)
  refine Eq.trans this (nodeRow_congr fun j _ => ⟨?_, rfl⟩)
  by_cases e : j = i
  · subst e; simp [h2]
  · by_cases hj : j < i
    · simp [e, hj, show j < i + 1 by omega, h1 j hj]
    · simp [e, hj, show ¬ j < i + 1 by omega]
/-- A new node, written whole. -/
theorem made_row (w : World) (E : Array Value) (L : List Value) (hE : E.toList = emptyRow) (hL : L.length = 48) :
    (w.alloc (.cells E 51)).there w.heap.size 0 L.toArray.size ∧ RowAt ((w.alloc (.cells E 51)).setCells w.heap.size 0 L.toArray.toList) w.heap.size 51 L ∧ Below w.heap.size w ((w.alloc (.cells E 51)).setCells w.heap.size 0 L.toArray.toList) ∧ ((w.alloc (.cells E 51)).setCells w.heap.size 0 L.toArray.toList).heap.size = w.heap.size + 1 := by
  have hr := RowAt.new w E 51
  rw [hE] at hr
  have hel : emptyRow.length = 48 := nodeRow_len
  have hb := but_setCells w.heap.size L.toArray.toList 0 (w.alloc (.cells E 51))
  refine ⟨?_, ?_, ?_, ?_⟩
  · intro j hj
    have hj' : j < emptyRow.length := by rw [hel]; simpa [hL] using hj
    refine ⟨?_, hr.frozen _⟩
    rw [Nat.zero_add, hr.cell, List.getElem?_eq_getElem hj']
    rfl
  · have := RowAt.setCells L.toArray.toList emptyRow 0 hr (by rw [hel]; simp [hL])
    have e : emptyRow.take 0 ++ L.toArray.toList ++ emptyRow.drop (0 + L.toArray.toList.length) = L := by
      simp [hL, hel]
    rw [e] at this
    exact this
  · exact (below_alloc _ _).trans (hb.below (Nat.le_refl _))
  · rw [hb.size]; simp

set_option maxRecDepth 100000 in
set_option maxHeartbeats 4000000 in
theorem pcopied_step (t : Nat) (N : Nds) (T : Tab) (n m : Int) (k q b : Nat) (hb : N k q = some b) (w : World) (h : Heap w t N T n m)
    (ih : ∀ (i b1 : Nat), i < 16 → N (k + 1) (16 * q + i) = some b1 → ∀ w, Heap w t N T n m → Calls Try.prog 34 #[.pointer (some ⟨b1, 0, none⟩)] w fun e w' => ∃ (c : Nat) (M : Nds), e = .returned (.pointer (some ⟨c, 0, none⟩)) ∧ M (k + 1) (16 * q + i) = some c ∧ Sub w' w.heap.size M T (fun j p => under (k + 1) (16 * q + i) j p ∧ N j p ≠ none) ∧ Below w.heap.size w w') :
    Calls Try.prog 34 #[.pointer (some ⟨b, 0, none⟩)] w fun e w' => ∃ (c : Nat) (M : Nds), e = .returned (.pointer (some ⟨c, 0, none⟩)) ∧ M k q = some c ∧ Sub w' w.heap.size M T (fun j p => under k q j p ∧ N j p ≠ none) ∧ Below w.heap.size w w' := by
  have hrow := h.row _ _ _ hb
  have HR : Hid (w.rangeAt b 0 (nodeCells N T k q)) := by
    intro j v hv
    rw [Nat.zero_add, hrow.cell, List.getElem?_append_left (by obtain ⟨h1, _⟩ := List.getElem?_eq_some_iff.1 hv; exact h1)]
    exact hv
  have HSZ : Hid ((Try.prog.info? 51).map (·.size) = some (nodeCells N T k q).length) := by
    show _ = _
    rw [nodeCells_len]
    exact size51
  have HONE : Hid ((nodeCells N T k q).toArray.all (·.oneCell') = true) := all_oneCell_toArray (row_one _ _)
  have HNE : Hid (N k q ≠ none) := (show N k q ≠ none by rw [hb]; simp)
  have hLn := nodeCells_len N T k q
  have HZ : Hid (nodeCells N T k q = halfRow N (fun _ _ => none) T k q 0) := (half_zero _ _ _ _ _).symm
  obtain ⟨L, hL⟩ : ∃ L, L = nodeCells N T k q := ⟨_, rfl⟩
  rw [← hL] at HR HSZ HONE hLn HZ
  have HM : Hid (_) := made_row w #[Value.pointer none, Value.int .u64 0, Value.bool false, Value.pointer none, Value.int .u64 0, Value.bool false, Value.pointer none, Value.int .u64 0, Value.bool false, Value.pointer none, Value.int .u64 0, Value.bool false, Value.pointer none, Value.int .u64 0, Value.bool false, Value.pointer none, Value.int .u64 0, Value.bool false, Value.pointer none, Value.int .u64 0, Value.bool false, Value.pointer none, Value.int .u64 0, Value.bool false, Value.pointer none, Value.int .u64 0, Value.bool false, Value.pointer none, Value.int .u64 0, Value.bool false, Value.pointer none, Value.int .u64 0, Value.bool false, Value.pointer none, Value.int .u64 0, Value.bool false, Value.pointer none, Value.int .u64 0, Value.bool false, Value.pointer none, Value.int .u64 0, Value.bool false, Value.pointer none, Value.int .u64 0, Value.bool false, Value.pointer none, Value.int .u64 0, Value.bool false] L rfl hLn
  clear hL hrow hb
  go_enter Try.func34, Try.ntmps34
  go_wp2_with (first
    | (refine wpList_load_mid rfl 51 (.tmp 6) rfl b 0 rfl L _ HR.out Try.underlying51 rfl HSZ.out ?_)
    | (refine wpList_store_mid rfl 51 (.tmp 3) (.tmp 7) rfl w.heap.size 0 L.toArray rfl rfl HM.out.1 (by simpa using HSZ.out) HONE.out ?_))
  obtain ⟨-, hr1, hb1, hs1⟩ := HM.out
  obtain ⟨w1, hw1⟩ : ∃ w1, w1 = (w.alloc (.cells #[Value.pointer none, Value.int .u64 0, Value.bool false, Value.pointer none, Value.int .u64 0, Value.bool false, Value.pointer none, Value.int .u64 0, Value.bool false, Value.pointer none, Value.int .u64 0, Value.bool false, Value.pointer none, Value.int .u64 0, Value.bool false, Value.pointer none, Value.int .u64 0, Value.bool false, Value.pointer none, Value.int .u64 0, Value.bool false, Value.pointer none, Value.int .u64 0, Value.bool false, Value.pointer none, Value.int .u64 0, Value.bool false, Value.pointer none, Value.int .u64 0, Value.bool false, Value.pointer none, Value.int .u64 0, Value.bool false, Value.pointer none, Value.int .u64 0, Value.bool false, Value.pointer none, Value.int .u64 0, Value.bool false, Value.pointer none, Value.int .u64 0, Value.bool false, Value.pointer none, Value.int .u64 0, Value.bool false, Value.pointer none, Value.int .u64 0, Value.bool false] 51)).setCells w.heap.size 0 L.toArray.toList := ⟨_, rfl⟩
  rw [← hw1] at hr1 hb1 hs1 ⊢
  rw [HZ.out] at hr1
  clear hw1 HM HR HSZ HONE HZ hLn
  go_loopw [4, 8] (fun s4 s8 wr => ∃ (i : Nat) (M : Nds), i ≤ 16 ∧ s8 = .int .i64 i ∧ RowAt wr w.heap.size 51 (halfRow N M T k q i) ∧ Sub wr w.heap.size M T (fun j p => (∃ i', i' < i ∧ under (k + 1) (16 * q + i') j p) ∧ N j p ≠ none) ∧ (∀ j p, M j p ≠ some w.heap.size) ∧ Below w.heap.size w wr) (fun _ s8 _ => 16 - (intOf s8).toNat)
  case atStart =>
    refine ⟨0, fun _ _ => none, by omega, rfl, hr1, ⟨fun _ _ _ e => (by cases e), fun _ _ _ _ _ e => (by cases e), fun j p => ?_, fun _ _ _ e => (by cases e)⟩, fun _ _ e => (by cases e), hb1⟩
    constructor
    · intro e; exact absurd rfl e
    · rintro ⟨⟨i', hi', _⟩, _⟩; omega
  case round =>
    clear hr1 hb1 hs1
    obtain ⟨i, M, hi, rfl, hr, hS, hc, hbe⟩ := hrel
    by_cases hlt : i < 16
    · have hcell : wr.cell? ⟨w.heap.size, i * 3, none⟩ = some (ptr (N (k + 1) (16 * q + i))) := by
        rw [hr.cell]
        unfold halfRow
        have := nodeRow_get (o := fun j => if j < i then M (k + 1) (16 * q + j) else N (k + 1) (16 * q + j)) (x := fun j => wd T (k + 1) (16 * q + j)) hlt (j := 0) (by omega)
        simpa [place] using this
      have hfr := hr.frozen (i * 3)
      cases hn : N (k + 1) (16 * q + i) with
      | none =>
        rw [hn] at hcell
        have hcell' : wr.cell? ⟨w.heap.size, i * 3, none⟩ = some (.pointer none) := hcell
        have hMn : M (k + 1) (16 * q + i) = none := by
          cases e : M (k + 1) (16 * q + i) with
          | none => rfl
          | some c1 =>
            obtain ⟨⟨i', hi', hu'⟩, _⟩ := (hS.dom _ _).1 (by rw [e]; simp)
            have := under_one hu' (under_self (k + 1) (16 * q + i))
            omega
        rw [half_none hn hMn] at hr
        have hS2 := hS.pass h hn
        have HN : Hid (N (k + 1) (16 * q + i) = none) := hn
        clear hcell hn hMn hS
        go_wp2
        exact ⟨⟨i + 1, M, by omega, by go_num, hr, hS2, hc, hbe⟩, by simp [intOf]; omega⟩
      | some b1 =>
        rw [hn] at hcell
        have hcell' : wr.cell? ⟨w.heap.size, i * 3, none⟩ = some (.pointer (some ⟨b1, 0, none⟩)) := hcell
        have HN : Hid (N (k + 1) (16 * q + i) = some b1) := hn
        clear hcell hn
        go_wp2_with fail
        refine (ih i b1 hlt HN.out wr (h.below hbe)).mono ?_
        rintro e w2 ⟨c1, M1, rfl, hc1, hS1, hb2⟩
        have hclt := hr.lt
        have hr2 := hr.below hb2 hclt
        have hcell2 : w2.cell? ⟨w.heap.size, i * 3, none⟩ = some (.pointer (some ⟨b1, 0, none⟩)) := cell_later hb2 hcell'
        have hfr2 := hr2.frozen (i * 3)
        obtain ⟨M2, hS2, e1, e2, hc2⟩ := hS.join (c := w.heap.size) (w'' := w2.setCell ⟨w.heap.size, i * 3, none⟩ (.pointer (some ⟨c1, 0, none⟩))) hS1 (by omega) (Nat.le_refl _) hb2 (But.setCell _ _ _ _) hc hclt
        have hr3 := hr2.set (i * 3) (.pointer (some ⟨c1, 0, none⟩))
        rw [half_some hlt e1 (e2.trans hc1)] at hr3
        have hbe3 : Below w.heap.size w (w2.setCell ⟨w.heap.size, i * 3, none⟩ (.pointer (some ⟨c1, 0, none⟩))) := (hbe.trans (hb2.mono hbe.size)).trans ((But.setCell _ _ _ _).below (Nat.le_refl _))
        clear hS hS1 hr hr2 hb2 hcell' hc hbe e1 e2 hc1
        go_wp2
        exact ⟨⟨i + 1, M2, by omega, by go_num, hr3, hS2, hc2, hbe3⟩, by simp [intOf]; omega⟩
    · obtain rfl : i = 16 := by omega
      rw [half_all] at hr
      have HF := hS.whole hc (Nat.le_refl _) HNE.out hr
      clear ih hS hr hc
      go_wp2
      go_ret
      exact ⟨_, _, rfl, addN_same _ _ _ _, HF, hbe⟩

theorem pcopied (t : Nat) (N : Nds) (T : Tab) (n m : Int) : ∀ (d k q b : Nat) (_ : k + d = 3) (_ : N k q = some b) (w : World) (_ : Heap w t N T n m),
    Calls Try.prog 34 #[.pointer (some ⟨b, 0, none⟩)] w fun e w' => ∃ (c : Nat) (M : Nds), e = .returned (.pointer (some ⟨c, 0, none⟩)) ∧ M k q = some c ∧ Sub w' w.heap.size M T (fun j p => under k q j p ∧ N j p ≠ none) ∧ Below w.heap.size w w' := by
  intro d
  induction d with
  | zero =>
    intro k q b hk hb w h
    refine pcopied_step t N T n m k q b hb w h fun i b1 _ hb1 => ?_
    have := h.lim (k + 1) _ (by rw [hb1]; simp)
    omega
  | succ d ih =>
    intro k q b hk hb w h
    exact pcopied_step t N T n m k q b hb w h fun i b1 _ hb1 w' h' => ih (k + 1) (16 * q + i) b1 (by omega) hb1 w' h'
end Go.Proofs.Ytaecacbapeogdaa
