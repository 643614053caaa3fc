/-
  A place of a node written: what becomes of the table's nodes; contracts of reach and Set.
-/
import Derived.Test.YtaecacbapeogdaaP2
namespace Go.Proofs.Ytaecacbapeogdaa
open Go.RowKit

section
variable {w w' : World} {t : Nat} {N N' : Nds} {W W' : Tab} {n m : Int}
theorem nodeCells_other {k q i : Nat} (hi : i < 16) (hN : ∀ k' q', ¬ (k' = k + 1 ∧ q' = 16 * q + i) → N' k' q' = N k' q') (hW : ∀ k' q', ¬ (k' = k + 1 ∧ q' = 16 * q + i) → wd W' k' q' = wd W k' q')
    {k' q' : Nat} (hne : ¬ (k' = k ∧ q' = q)) : nodeCells N' W' k' q' = nodeCells N W k' q' :=
  nodeRow_congr fun j hj => ⟨hN _ _ (by omega), hW _ _ (by omega)⟩
theorem nodeCells_same {k q i : Nat} (hN : ∀ k' q', ¬ (k' = k + 1 ∧ q' = 16 * q + i) → N' k' q' = N k' q') (hW : ∀ k' q', ¬ (k' = k + 1 ∧ q' = 16 * q + i) → wd W' k' q' = wd W k' q') :
    nodeCells N' W' k q = nodeRow (fun j => if j = i then N' (k + 1) (16 * q + i) else N (k + 1) (16 * q + j)) (fun j => if j = i then wd W' (k + 1) (16 * q + i) else wd W (k + 1) (16 * q + j)) := by
  refine nodeRow_congr fun j hj => ?_
  by_cases h : j = i
  · subst h; simp
  · simp only [h, if_false]
    exact ⟨hN _ _ (by omega), hW _ _ (by omega)⟩
/-- One place of node (k, q) is written. -/
theorem Heap.write (h : Heap w t N W n m) {k q b i : Nat} (hb : N k q = some b) (hi : i < 16)
    (hN : ∀ k' q', ¬ (k' = k + 1 ∧ q' = 16 * q + i) → N' k' q' = N k' q') (hW : ∀ k' q', ¬ (k' = k + 1 ∧ q' = 16 * q + i) → wd W' k' q' = wd W k' q')
    (hrow : RowAt w' b (ty k) (nodeRow (fun j => if j = i then N' (k + 1) (16 * q + i) else N (k + 1) (16 * q + j)) (fun j => if j = i then wd W' (k + 1) (16 * q + i) else wd W (k + 1) (16 * q + j)) ++ tl n m k))
    (hoth : ∀ c, c < w.heap.size → c ≠ b → w'.heap[c]? = w.heap[c]?)
    (hnew : ∀ c, N' (k + 1) (16 * q + i) = some c → k ≤ 2 ∧ w.heap.size ≤ c ∧ RowAt w' c 51 (nodeCells N' W' (k + 1) (16 * q + i)))
    (hkids : N' (k + 1) (16 * q + i) = none → ∀ j, j < 16 → N (k + 2) (16 * (16 * q + i) + j) = none)
    (hwup : ∀ p, W' p ≠ none → N' 3 (p / 16) ≠ none) (hfits : Fits W') : Heap w' t N' W' n m := by
  refine ⟨?_, ?_, ?_, ?_, ?_, hwup, hfits⟩
  · intro q'
    rw [hN 0 q' (by omega)]
    exact h.top q'
  · intro k' q' c hc
    by_cases h1 : k' = k + 1 ∧ q' = 16 * q + i
    · obtain ⟨rfl, rfl⟩ := h1
      have := (hnew c hc).2.2
      simpa [ty, tl] using this
    · rw [hN _ _ h1] at hc
      by_cases h2 : k' = k ∧ q' = q
      · obtain ⟨rfl, rfl⟩ := h2
        rw [hb] at hc
        injection hc with hc
        subst hc
        rw [nodeCells_same hN hW]
        exact hrow
      · have hcb : c ≠ b := fun e => h2 (h.inj _ _ _ _ b (e ▸ hc) hb)
        have := h.row k' q' c hc
        rw [nodeCells_other hi hN hW h2]
        unfold RowAt at this ⊢
        rw [hoth c (h.lt hc) hcb]
        exact this
  · intro k1 q1 k2 q2 c h1 h2
    by_cases e1 : k1 = k + 1 ∧ q1 = 16 * q + i
    · by_cases e2 : k2 = k + 1 ∧ q2 = 16 * q + i
      · omega
      · rw [hN _ _ e2] at h2
        rw [e1.1, e1.2] at h1
        have := (hnew c h1).2.1
        have := h.lt h2
        omega
    · rw [hN _ _ e1] at h1
      by_cases e2 : k2 = k + 1 ∧ q2 = 16 * q + i
      · rw [e2.1, e2.2] at h2
        have := (hnew c h2).2.1
        have := h.lt h1
        omega
      · rw [hN _ _ e2] at h2
        exact h.inj _ _ _ _ c h1 h2
  · intro k' q' hk
    by_cases e : k' = k + 1 ∧ q' = 16 * q + i
    · rw [e.1, e.2] at hk
      cases hc : N' (k + 1) (16 * q + i) with
      | none => exact absurd hc hk
      | some c => have := (hnew c hc).1; omega
    · rw [hN _ _ e] at hk
      exact h.lim _ _ hk
  · intro k' q' hk
    by_cases e : k' + 1 = k + 1 ∧ q' = 16 * q + i
    · have e1 : k' = k := by omega
      have e2 : q' / 16 = q := by omega
      rw [e1, e2, hN k q (by omega), hb]
      simp
    · rw [hN _ _ e] at hk
      have hp := h.up _ _ hk
      by_cases e1 : k' = k + 1 ∧ q' / 16 = 16 * q + i
      · intro hc
        rw [e1.1, e1.2] at hc
        have := hkids hc (q' % 16) (by omega)
        rw [show 16 * (16 * q + i) + q' % 16 = q' by omega] at this
        rw [e1.1] at hk
        exact hk this
      · rw [hN _ _ e1]
        exact hp
theorem Heap.setOthers (h : Heap w t N W n m) (m' : Int) : Heap (w.setCell ⟨t, 49, none⟩ (.int .i64 m')) t N W n m' := by
  refine ⟨h.top, ?_, h.inj, h.lim, h.up, h.wup, h.fits⟩
  intro k q b hb
  by_cases hk : k = 0
  · subst hk
    have hq : q = 0 := by rw [h.top] at hb; split at hb; assumption; cases hb
    subst hq
    rw [h.t0] at hb
    injection hb with hb
    subst hb
    have := h.root.set 49 (.int .i64 m')
    rw [List.set_append_right _ _ (by rw [nodeCells_len]; omega), nodeCells_len] at this
    exact this
  · have hne : b ≠ t := fun e => hk (h.inj _ _ _ _ b hb (by rw [e]; exact h.t0)).1
    have := (h.row k q b hb).other hne 49 (.int .i64 m')
    simpa [tl, hk] using this
theorem Heap.setWords (h : Heap w t N W n m) (n' : Int) : Heap (w.setCell ⟨t, 48, none⟩ (.int .i64 n')) t N W n' m := by
  refine ⟨h.top, ?_, h.inj, h.lim, h.up, h.wup, h.fits⟩
  intro k q b hb
  by_cases hk : k = 0
  · subst hk
    have hq : q = 0 := by rw [h.top] at hb; split at hb; assumption; cases hb
    subst hq
    rw [h.t0] at hb
    injection hb with hb
    subst hb
    have := h.root.set 48 (.int .i64 n')
    rw [List.set_append_right _ _ (by rw [nodeCells_len]; omega), nodeCells_len] at this
    exact this
  · have hne : b ≠ t := fun e => hk (h.inj _ _ _ _ b hb (by rw [e]; exact h.t0)).1
    have := (h.row k q b hb).other hne 48 (.int .i64 n')
    simpa [tl, hk] using this
/-- A block of the table's. -/
def In (N : Nds) (b : Nat) : Prop := ∃ k q, N k q = some b
def addN (N : Nds) (k q b : Nat) : Nds := fun k' q' => if k' = k ∧ q' = q then some b else N k' q'
theorem addN_same (N : Nds) (k q b : Nat) : addN N k q b k q = some b := by simp [addN]
theorem addN_other (N : Nds) (k q b : Nat) {k' q' : Nat} (h : ¬ (k' = k ∧ q' = q)) : addN N k q b k' q' = N k' q' := by simp [addN, h]
/-- A new node. -/
theorem Heap.grow (h : Heap w t N W n m) {k q b i : Nat} (hk : k ≤ 2) (hb : N k q = some b) (hi : i < 16) (hn : N (k + 1) (16 * q + i) = none) (cs : Array Value) (hcs : cs.toList = emptyRow) :
    Heap ((w.alloc (.cells cs 51)).setCell ⟨b, i * 3, none⟩ (.pointer (some ⟨w.heap.size, 0, none⟩))) t (addN N (k + 1) (16 * q + i) w.heap.size) W n m := by
  have hbl := h.lt hb
  have hkids : ∀ j, j < 16 → N (k + 2) (16 * (16 * q + i) + j) = none := by
    intro j hj
    cases hc : N (k + 2) (16 * (16 * q + i) + j) with
    | none => rfl
    | some c =>
      have := h.up (k + 1) _ (by rw [hc]; simp)
      rw [show (16 * (16 * q + i) + j) / 16 = 16 * q + i by omega] at this
      exact absurd hn this
  have hw0 : ∀ k' q', k' + 1 ≤ 3 → wd W (k' + 1) q' = none := fun k' q' hk => wd_less W q' (by omega)
  refine h.write hb hi (fun _ _ e => addN_other _ _ _ _ e) (fun _ _ _ => rfl) ?_ ?_ ?_ ?_ ?_ h.fits
  · rw [addN_same]
    have h1 := ((h.row k q b hb).alloc (.cells cs 51)).set (i * 3) (ptr (some w.heap.size))
    rw [List.set_append_left _ _ (by rw [nodeCells_len]; omega)] at h1
    unfold nodeCells at h1
    rw [nodeRow_ptr hi] at h1
    have e : (fun j => if j = i then wd W (k + 1) (16 * q + i) else wd W (k + 1) (16 * q + j)) = (fun j => wd W (k + 1) (16 * q + j)) := by
      funext j
      by_cases hj : j = i
      · subst hj; simp
      · simp [hj]
    rw [e]
    exact h1
  · intro c hc hcb
    rw [heap_setCell_other _ _ c _ hcb]
    exact Below.heap_alloc w _ c hc
  · intro c hc
    rw [addN_same] at hc
    injection hc with hc
    subst hc
    refine ⟨hk, Nat.le_refl _, ?_⟩
    have h1 := (RowAt.new w cs 51).other (show w.heap.size ≠ b by omega) (i * 3) (.pointer (some ⟨w.heap.size, 0, none⟩))
    rw [hcs] at h1
    have e : nodeCells (addN N (k + 1) (16 * q + i) w.heap.size) W (k + 1) (16 * q + i) = emptyRow := by
      refine nodeRow_congr fun j hj => ?_
      rw [addN_other _ _ _ _ (by omega)]
      refine ⟨hkids j hj, ?_⟩
      by_cases h3 : k = 2
      · subst h3
        rw [wd_four]
        cases hc : W (16 * (16 * q + i) + j) with
        | none => rfl
        | some x =>
          have := h.wup _ (by rw [hc]; simp)
          rw [show (16 * (16 * q + i) + j) / 16 = 16 * q + i by omega] at this
          exact absurd hn this
      · exact hw0 (k + 1) _ (by omega)
    rw [e]
    exact h1
  · intro hc
    rw [addN_same] at hc
    cases hc
  · intro p hp
    have := h.wup p hp
    by_cases e : 3 = k + 1 ∧ p / 16 = 16 * q + i
    · rw [← e.1, ← e.2, addN_same]; simp
    · rw [addN_other _ _ _ _ e]; exact this
end
end Go.Proofs.Ytaecacbapeogdaa
