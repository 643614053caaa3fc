/-
  Contracts of drop and Drop.
-/
import Derived.Test.YtaecacbapeogdaaP5
namespace Go.Proofs.Ytaecacbapeogdaa
open Go.RowKit

def delN (N : Nds) (k q : Nat) : Nds := fun k' q' => if k' = k ∧ q' = q then none else N k' q'
theorem delN_same (N : Nds) (k q : Nat) : delN N k q k q = none := by simp [delN]
theorem delN_other (N : Nds) (k q : Nat) {k' q' : Nat} (h : ¬ (k' = k ∧ q' = q)) : delN N k q k' q' = N k' q' := by simp [delN, h]
section
variable {w w' : World} {t : Nat} {N N' : Nds} {W : Tab} {n m : Int}
/-- A node that holds nothing is let go. -/
theorem Heap.clear (h : Heap w t N W n m) {k q b i : Nat} (hk : k ≤ 2) (hb : N k q = some b) (hi : i < 16)
    (he : ∀ j, j < 16 → N (k + 2) (16 * (16 * q + i) + j) = none ∧ wd W (k + 2) (16 * (16 * q + i) + j) = none) :
    Heap (((w.setCell ⟨b, i * 3, none⟩ (.pointer none)).setCell ⟨b, i * 3 + 1, none⟩ (.int .u64 0)).setCell ⟨b, i * 3 + 2, none⟩ (.bool false)) t (delN N (k + 1) (16 * q + i)) W n m := by
  refine h.write hb hi (fun _ _ e => delN_other _ _ _ e) (fun _ _ _ => rfl) ?_ ?_ ?_ ?_ ?_ h.fits
  · rw [delN_same, wd_less W _ (by omega)]
    have h1 := (((h.row k q b hb).set (i * 3) (ptr none)).set (i * 3 + 1) (.int .u64 ((none : Option Int).getD 0))).set (i * 3 + 2) (.bool (none : Option Int).isSome)
    rw [List.set_append_left _ _ (by rw [nodeCells_len]; omega), List.set_append_left _ _ (by rw [List.length_set, nodeCells_len]; omega), List.set_append_left _ _ (by rw [List.length_set, List.length_set, nodeCells_len]; omega)] at h1
    unfold nodeCells at h1
    rw [nodeRow_all hi] at h1
    exact h1
  · intro c _ hc
    rw [heap_setCell_other _ _ c _ hc, heap_setCell_other _ _ c _ hc, heap_setCell_other _ _ c _ hc]
  · intro c hc
    rw [delN_same] at hc
    cases hc
  · intro _ j hj
    exact (he j hj).1
  · intro p hp
    by_cases e : 3 = k + 1 ∧ p / 16 = 16 * q + i
    · have := (he (p % 16) (by omega)).2
      rw [show 16 * (16 * q + i) + p % 16 = p by omega, show k + 2 = 4 by omega, wd_four] at this
      exact absurd this hp
    · rw [delN_other _ _ _ e]
      exact h.wup p hp
end

/-- What drop leaves. -/
structure Left (w w' : World) (t : Nat) (N N' : Nds) (W : Tab) (n m : Int) (g p k : Nat) : Prop where
  heap : Heap w' t N' (delW W p) n m
  sub : ∀ j q, N' j q ≠ none → N' j q = N j q
  dom : ∀ j q, N' j q ≠ none ↔ N j q ≠ none ∧ (j ≤ k ∨ ex (delW W p) j q)
  cnt : ∀ c, IsCnt (fun x : Nat × Nat => 1 ≤ x.1 ∧ N x.1 x.2 ≠ none) c → ∃ c', c = c' + g ∧ IsCnt (fun x : Nat × Nat => 1 ≤ x.1 ∧ N' x.1 x.2 ≠ none) c'
  trn : Turn (In N) w w'
  le : g ≤ 3
section
variable {w w' : World} {t : Nat} {N N' : Nds} {W : Tab} {n m : Int} {g p k b : Nat}
theorem turn3 (hT : Turn (In N) w w') (hb : In N b) (i j l : Nat) (x y z : Value) : Turn (In N) w (((w'.setCell ⟨b, i, none⟩ x).setCell ⟨b, j, none⟩ y).setCell ⟨b, l, none⟩ z) :=
  ((hT.trans (Turn.ofBut (But.setCell _ _ _ _) hb)).trans (Turn.ofBut (But.setCell _ _ _ _) hb)).trans (Turn.ofBut (But.setCell _ _ _ _) hb)
theorem Left.leaf (h : Heap w t N W n m) (hp : p < 65536) (hb : N 3 (pg p 3) = some b) :
    Left w (((w.setCell ⟨b, dg p 3 * 3, none⟩ (.pointer none)).setCell ⟨b, dg p 3 * 3 + 1, none⟩ (.int .u64 0)).setCell ⟨b, dg p 3 * 3 + 2, none⟩ (.bool false)) t N N W n m 0 p 3 := by
  refine ⟨h.leaf hp hb none, fun _ _ _ => rfl, fun j q => ?_, fun c hc => ⟨c, rfl, hc⟩, turn3 (Turn.refl _ _) ⟨_, _, hb⟩ _ _ _ _ _ _, by omega⟩
  constructor
  · intro h1
    exact ⟨h1, .inl (h.lim _ _ h1)⟩
  · exact fun h1 => h1.1
/-- The node still holds something. -/
theorem Left.stay (h : Left w w' t N N' W n m g p (k + 1)) (hk : k ≤ 2) (hd : ∀ q, N (k + 1) q ≠ none → ex W (k + 1) q)
    (he : noneB (fun i => N' (k + 2) (16 * pg p (k + 1) + i)) (fun i => wd (delW W p) (k + 2) (16 * pg p (k + 1) + i)) (List.range 16) = false) (hg : g ≤ 2) : Left w w' t N N' W n m g p k := by
  have hex : ex (delW W p) (k + 1) (pg p (k + 1)) := by
    obtain ⟨i, hi, h1 | h1⟩ := noneB_false he
    · have := ((h.dom _ _).1 h1).2
      rcases this with h2 | h2
      · omega
      · exact (ex_down (by omega)).2 ⟨i, hi, h2⟩
    · by_cases h4 : k + 2 = 4
      · rw [h4, wd_four] at h1
        refine (ex_down (by omega)).2 ⟨i, hi, ?_⟩
        rw [show k + 1 + 1 = 4 by omega]
        exact ex_four.2 h1
      · rw [wd_less _ _ h4] at h1
        exact absurd rfl h1
  refine ⟨h.heap, h.sub, fun j q => ?_, h.cnt, h.trn, by omega⟩
  rw [h.dom]
  constructor
  · rintro ⟨h1, h2 | h2⟩
    · refine ⟨h1, ?_⟩
      by_cases hj : j ≤ k
      · exact .inl hj
      · have : j = k + 1 := by omega
        subst this
        by_cases hq : q = pg p (k + 1)
        · rw [hq]; exact .inr hex
        · exact .inr (ex_del_other (hd q h1) hq)
    · exact ⟨h1, .inr h2⟩
  · rintro ⟨h1, h2 | h2⟩
    · exact ⟨h1, .inl (by omega)⟩
    · exact ⟨h1, .inr h2⟩
/-- It holds nothing any more. -/
theorem Left.gone (h : Left w w' t N N' W n m g p (k + 1)) (hk : k ≤ 2) (hd : ∀ j q, 1 ≤ j → j ≤ 3 → (N j q ≠ none ↔ ex W j q))
    (he : noneB (fun i => N' (k + 2) (16 * pg p (k + 1) + i)) (fun i => wd (delW W p) (k + 2) (16 * pg p (k + 1) + i)) (List.range 16) = true) (hg : g ≤ 2) (hb : N k (pg p k) = some b) (hc : N (k + 1) (pg p (k + 1)) ≠ none) :
    Left w (((w'.setCell ⟨b, dg p k * 3, none⟩ (.pointer none)).setCell ⟨b, dg p k * 3 + 1, none⟩ (.int .u64 0)).setCell ⟨b, dg p k * 3 + 2, none⟩ (.bool false)) t N (delN N' (k + 1) (pg p (k + 1))) W n m (g + 1) p k := by
  have hs := pg_step p (k := k) (by omega)
  have hex : ¬ ex (delW W p) (k + 1) (pg p (k + 1)) := by
    intro hx
    obtain ⟨i, hi, h1⟩ := (ex_down (by omega)).1 hx
    obtain ⟨h2, h3⟩ := noneB_true he i hi
    by_cases h4 : k + 2 = 4
    · rw [h4, wd_four] at h3
      rw [show k + 1 + 1 = 4 by omega] at h1
      exact ex_four.1 h1 h3
    · exact (h.dom (k + 2) _).2 ⟨(hd _ _ (by omega) (by omega)).2 (ex_del_of h1), .inr h1⟩ h2
  have hb' : N' k (pg p k) = some b := by
    have := (h.dom k (pg p k)).2 ⟨by rw [hb]; simp, .inl (by omega)⟩
    rw [h.sub _ _ this, hb]
  have hc' : N' (k + 1) (pg p (k + 1)) ≠ none := (h.dom _ _).2 ⟨hc, .inl (by omega)⟩
  have hh := h.heap.clear hk hb' (dg_lt p k) (by rw [← hs]; exact fun j hj => noneB_true he j hj)
  rw [← hs] at hh
  refine ⟨hh, fun j q hj => ?_, fun j q => ?_, fun c hcc => ?_, turn3 h.trn ⟨_, _, hb⟩ _ _ _ _ _ _, by omega⟩
  · by_cases e : j = k + 1 ∧ q = pg p (k + 1)
    · rw [e.1, e.2, delN_same] at hj
      exact absurd rfl hj
    · rw [delN_other _ _ _ e] at hj ⊢
      exact h.sub _ _ hj
  · by_cases e : j = k + 1 ∧ q = pg p (k + 1)
    · obtain ⟨rfl, rfl⟩ := e
      rw [delN_same]
      constructor
      · intro h1; exact absurd rfl h1
      · rintro ⟨h1, h2 | h2⟩
        · omega
        · exact absurd h2 hex
    · rw [delN_other _ _ _ e, h.dom]
      constructor
      · rintro ⟨h1, h2 | h2⟩
        · refine ⟨h1, ?_⟩
          by_cases hj : j ≤ k
          · exact .inl hj
          · have : j = k + 1 := by omega
            subst this
            have hq : q ≠ pg p (k + 1) := fun e' => e ⟨rfl, e'⟩
            exact .inr (ex_del_other ((hd _ _ (by omega) (by omega)).1 h1) hq)
        · exact ⟨h1, .inr h2⟩
      · rintro ⟨h1, h2 | h2⟩
        · exact ⟨h1, .inl (by omega)⟩
        · exact ⟨h1, .inr h2⟩
  · obtain ⟨c', rfl, h1⟩ := h.cnt c hcc
    obtain ⟨d, rfl, h2⟩ := h1.del' (x := (k + 1, pg p (k + 1))) ⟨by simp, hc'⟩ (Q := fun x : Nat × Nat => 1 ≤ x.1 ∧ delN N' (k + 1) (pg p (k + 1)) x.1 x.2 ≠ none) (fun y => by
      obtain ⟨j, q⟩ := y
      by_cases e : j = k + 1 ∧ q = pg p (k + 1)
      · obtain ⟨rfl, rfl⟩ := e
        simp [delN_same]
      · rw [delN_other _ _ _ e]
        simp only [ne_eq, Prod.mk.injEq]
        exact ⟨fun h1 => ⟨h1, e⟩, fun h1 => h1.1⟩)
    exact ⟨d, by omega, h2⟩
end

set_option maxHeartbeats 2000000 in
theorem pdrop (t : Nat) (N : Nds) (W : Tab) (n m : Int) (p : Nat) (hp : p < 65536) (hw : W p ≠ none) (hd : ∀ j q, 1 ≤ j → j ≤ 3 → (N j q ≠ none ↔ ex W j q)) : ∀ (d k sh b : Nat) (_ : k + d = 3) (_ : sh + 4 * k = 12) (_ : N k (pg p k) = some b) (w : World) (_ : Heap w t N W n m),
    Calls Try.prog 27 #[.pointer (some ⟨b, 0, none⟩), .int .i64 p, .int .i64 sh] w fun e w' => ∃ (N' : Nds) (g : Nat), e = .returned (.int .i64 g) ∧ g ≤ d ∧ Left w w' t N N' W n m g p k := by
  intro d
  induction d with
  | zero =>
    intro k sh b hk hsh hb w h
    obtain rfl : k = 3 := by omega
    obtain rfl : sh = 0 := by omega
    have hdd : ∀ w : World, Calls Try.prog 33 #[.int .i64 p, .int .i64 0] w fun e w' => e = .returned (.int .i64 (dg p 3)) ∧ w' = w := fun w => pdigit p 3 0 hp (by omega) w
    have hl := dg_lt p 3
    have hc0 := h.cell hb hl (j := 0) (by omega)
    have hc1 := h.cell hb hl (j := 1) (by omega)
    have hc2 := h.cell hb hl (j := 2) (by omega)
    have h4 : N 4 (pg p 4) = none := by
      cases hq : N 4 (pg p 4) with
      | none => rfl
      | some c => have := h.lim 4 _ (by rw [hq]; simp); omega
    rw [← pg_step p (by omega), h4] at hc0 hc1 hc2
    have c0 : w.cell? ⟨b, dg p 3 * 3, none⟩ = some (.pointer none) := hc0
    obtain ⟨x1, hx1⟩ : ∃ x, x = Value.int .u64 ((wd W 4 (pg p 4)).getD 0) := ⟨_, rfl⟩
    obtain ⟨x2, hx2⟩ : ∃ x, x = Value.bool (wd W 4 (pg p 4)).isSome := ⟨_, rfl⟩
    have c1 : w.cell? ⟨b, dg p 3 * 3 + 1, none⟩ = some x1 := by rw [hx1]; exact hc1
    have c2 : w.cell? ⟨b, dg p 3 * 3 + 2, none⟩ = some x2 := by rw [hx2]; exact hc2
    have f0 := h.frozen hb (dg p 3 * 3)
    have f1 := h.frozen hb (dg p 3 * 3 + 1)
    have f2 := h.frozen hb (dg p 3 * 3 + 2)
    have HL : Hid (∀ d, Left w ((((w.drewN d).setCell ⟨b, dg p 3 * 3, none⟩ (.pointer none)).setCell ⟨b, dg p 3 * 3 + 1, none⟩ (.int .u64 0)).setCell ⟨b, dg p 3 * 3 + 2, none⟩ (.bool false)) t N N W n m 0 p 3) := by
      intro d
      have := Left.leaf (h.drewN d) hp hb
      exact ⟨this.heap, this.sub, this.dom, this.cnt, ⟨this.trn.os, this.trn.tape, this.trn.output, this.trn.size, this.trn.block⟩, this.le⟩
    clear hc0 hc1 hc2 h4 hx1 hx2 h
    go_enter Try.func27, Try.ntmps27
    go_wp2
    go_quiet ((go_at_call 33; exact (hdd _).mono fun e w' h => ⟨h.1, _, h.2⟩))
    go_wp2
    go_ret
    exact ⟨N, 0, rfl, by omega, HL.out _⟩
  | succ d ih =>
    intro k sh b hk hsh hb w h
    obtain ⟨sh', rfl⟩ : ∃ s, sh = s + 4 := ⟨sh - 4, by omega⟩
    have hdd : ∀ w : World, Calls Try.prog 33 #[.int .i64 p, .int .i64 (sh' + 4 : Nat)] w fun e w' => e = .returned (.int .i64 (dg p k)) ∧ w' = w := fun w => pdigit p k (sh' + 4) hp hsh w
    have hl := dg_lt p k
    have hk2 : k ≤ 2 := by omega
    have hc0 := h.cell hb hl (j := 0) (by omega)
    rw [← pg_step p (by omega)] at hc0
    have hup := h.upto hw (k := k + 1) (by omega)
    cases hc : N (k + 1) (pg p (k + 1)) with
    | none => exact absurd hc hup
    | some c =>
      rw [hc] at hc0
      have c0 : w.cell? ⟨b, dg p k * 3, none⟩ = some (.pointer (some ⟨c, 0, none⟩)) := hc0
      have IH : Hid (∀ w, Heap w t N W n m → Calls Try.prog 27 #[.pointer (some ⟨c, 0, none⟩), .int .i64 p, .int .i64 sh'] w fun e w' => ∃ (N' : Nds) (g : Nat), e = .returned (.int .i64 g) ∧ g ≤ d ∧ Left w w' t N N' W n m g p (k + 1)) :=
        fun w h => ih (k + 1) sh' c (by omega) (by omega) hc w h
      have HD : Hid (∀ j q, 1 ≤ j → j ≤ 3 → (N j q ≠ none ↔ ex W j q)) := hd
      have HB : Hid (N k (pg p k) = some b) := hb
      have HC : Hid (N (k + 1) (pg p (k + 1)) = some c) := hc
      clear hc0 ih hd hb hc hup
      go_enter Try.func27, Try.ntmps27
      go_wp2
      go_quiet ((go_at_call 33; exact (hdd _).mono fun e w' h => ⟨h.1, _, h.2⟩))
      go_wp2_with fail
      refine (IH.out _ (h.drewN _)).mono ?_
      rintro e w1 ⟨N', g, rfl, hgd, hL⟩
      have hL' : Left w w1 t N N' W n m g p (k + 1) := ⟨hL.heap, hL.sub, hL.dom, hL.cnt, ⟨hL.trn.os, hL.trn.tape, hL.trn.output, hL.trn.size, hL.trn.block⟩, hL.le⟩
      clear hL
      have hb' : N' k (pg p k) = some b := by
        have := (hL'.dom k (pg p k)).2 ⟨by rw [HB.out]; simp, .inl (by omega)⟩
        rw [hL'.sub _ _ this, HB.out]
      have hc' : N' (k + 1) (pg p (k + 1)) = some c := by
        have := (hL'.dom (k + 1) (pg p (k + 1))).2 ⟨by rw [HC.out]; simp, .inl (by omega)⟩
        rw [hL'.sub _ _ this, HC.out]
      have e0 := hL'.heap.cell hb' hl (j := 0) (by omega)
      have e1 := hL'.heap.cell hb' hl (j := 1) (by omega)
      have e2 := hL'.heap.cell hb' hl (j := 2) (by omega)
      rw [← pg_step p (by omega), hc', wd_less _ _ (by omega)] at e0 e1 e2
      have c1 : w1.cell? ⟨b, dg p k * 3, none⟩ = some (.pointer (some ⟨c, 0, none⟩)) := e0
      have c2 : w1.cell? ⟨b, dg p k * 3 + 1, none⟩ = some (.int .u64 0) := e1
      have c3 : w1.cell? ⟨b, dg p k * 3 + 2, none⟩ = some (.bool false) := e2
      have f0 := hL'.heap.frozen hb' (dg p k * 3)
      have f1 := hL'.heap.frozen hb' (dg p k * 3 + 1)
      have f2 := hL'.heap.frozen hb' (dg p k * 3 + 2)
      have hrow := hL'.heap.row _ _ _ hc'
      have HR : Hid (w1.rangeAt c 0 (nodeCells N' (delW W p) (k + 1) (pg p (k + 1)))) := by
        intro j v hv
        rw [Nat.zero_add, hrow.cell, List.getElem?_append_left (by obtain ⟨h1, _⟩ := List.getElem?_eq_some_iff.1 hv; exact h1)]
        exact hv
      have HSZ : Hid ((Try.prog.info? 51).map (·.size) = some (nodeCells N' (delW W p) (k + 1) (pg p (k + 1))).length) := by
        show _ = _
        rw [nodeCells_len]
        exact size51
      have HEQ : Hid (nodeCells N' (delW W p) (k + 1) (pg p (k + 1)) = nodeRow (fun i => N' (k + 2) (16 * pg p (k + 1) + i)) (fun i => wd (delW W p) (k + 2) (16 * pg p (k + 1) + i))) := rfl
      have HL : Hid (Left w w1 t N N' W n m g p (k + 1)) := hL'
      obtain ⟨L, hLl⟩ : ∃ L, L = nodeCells N' (delW W p) (k + 1) (pg p (k + 1)) := ⟨_, rfl⟩
      rw [← hLl] at HR HSZ HEQ
      have hqq := fun w => eq51 w (fun i => N' (k + 2) (16 * pg p (k + 1) + i)) (fun i => wd (delW W p) (k + 2) (16 * pg p (k + 1) + i))
      rw [← HEQ.out] at hqq
      have hgt := guard51
      clear hLl HEQ e0 e1 e2 hrow hL' hb' hc' hdd c0 h IH
      cases hE : noneB (fun i => N' (k + 2) (16 * pg p (k + 1) + i)) (fun i => wd (delW W p) (k + 2) (16 * pg p (k + 1) + i)) (List.range 16) with
      | false =>
        have HE : Hid (noneB (fun i => N' (k + 2) (16 * pg p (k + 1) + i)) (fun i => wd (delW W p) (k + 2) (16 * pg p (k + 1) + i)) (List.range 16) = false) := hE
        rw [hE] at hqq
        clear hE
        go_wp2_with (refine wpList_load_mid rfl 51 (.tmp 32) rfl c 0 rfl L _ HR.out Try.underlying51 rfl HSZ.out ?_)
        go_ret
        exact ⟨N', g, rfl, by omega, HL.out.stay hk2 (fun q hq => (HD.out _ _ (by omega) (by omega)).1 hq) HE.out (by omega)⟩
      | true =>
        have HE : Hid (noneB (fun i => N' (k + 2) (16 * pg p (k + 1) + i)) (fun i => wd (delW W p) (k + 2) (16 * pg p (k + 1) + i)) (List.range 16) = true) := hE
        rw [hE] at hqq
        clear hE
        go_wp2_with (refine wpList_load_mid rfl 51 (.tmp 32) rfl c 0 rfl L _ HR.out Try.underlying51 rfl HSZ.out ?_)
        go_ret
        exact ⟨_, g + 1, by go_num, by omega, HL.out.gone hk2 HD.out HE.out (by omega) HB.out (by rw [HC.out]; simp)⟩

/-! ### Drop -/
def delI (W : Tab) (x : Int) : Tab := if isPg x then delW W x.toNat else W
theorem delW_none {W : Tab} {p : Nat} (h : W p = none) : delW W p = W := by
  funext q
  unfold delW
  by_cases e : q = p
  · rw [if_pos e, e, h]
  · rw [if_neg e]
theorem delI_no {W : Tab} {x : Int} (h : getB W x = false) : delI W x = W := by
  unfold delI
  cases hx : isPg x with
  | false => rfl
  | true =>
    obtain ⟨p, rfl, hp⟩ := isPg_true hx
    rw [getB_nat] at h
    simp only [if_true]
    exact delW_none (by simpa using h)
theorem getB_true {W : Tab} (hf : Fits W) {x : Int} (h : getB W x = true) : ∃ p : Nat, x = p ∧ p < 65536 ∧ W p ≠ none ∧ delI W x = delW W p := by
  unfold getB at h
  split at h
  · rename_i hx
    obtain ⟨p, rfl⟩ := Int.eq_ofNat_of_zero_le hx
    have hw : W p ≠ none := by
      intro e
      simp [e] at h
    have hp := hf p hw
    exact ⟨p, rfl, hp, hw, by simp [delI, isPg_nat hp]⟩
  · cases h

set_option maxHeartbeats 2000000 in
theorem pdropT (t : Nat) (N : Nds) (W : Tab) (n m : Nat) (x : Int) (hn : n < 100000) (w : World) (h : TabIs w t N W n m) :
    Calls Try.prog 12 #[.pointer (some ⟨t, 0, none⟩), .int .i64 x] w fun e w' => ∃ (N' : Nds) (n' m' : Nat), e = .returned (.bool (getB W x)) ∧ TabIs w' t N' (delI W x) n' m' ∧ n' ≤ n ∧ Turn (In N) w w' ∧ ∀ c, In N' c → In N c := by
  cases hx : getB W x with
  | false =>
    have HX : Hid (getB W x = false) := hx
    have HW : Hid (delI W x = W) := delI_no hx
    clear hx
    go_enter Try.func12, Try.ntmps12
    go_wp2_with fail
    refine (pget t N W n m x _ h.heap).mono ?_
    rintro e w1 ⟨rfl, d, rfl⟩
    rw [HX.out]
    go_wp2
    go_ret
    exact ⟨N, n, m, rfl, by rw [HW.out]; exact h.drewN _, by omega, (Turn.refl _ _).drewN _, fun c hc => hc⟩
  | true =>
    have HX : Hid (getB W x = true) := hx
    obtain ⟨p, rfl, hp, hw, hde⟩ := getB_true h.heap.fits hx
    have HW : Hid (delI W p = delW W p) := hde
    have hd : ∀ j q, 1 ≤ j → j ≤ 3 → (N j q ≠ none ↔ ex W j q) := by
      intro j q h1 h3
      rw [h.dom]
      constructor
      · rintro (h2 | h2)
        · omega
        · exact h2.2
      · exact fun h2 => .inr ⟨⟨h1, h3⟩, h2⟩
    have hm3 := h.cnt.le3
    have hn0 := h.cnt.n.pos hw
    have H27 : Hid (∀ d, Calls Try.prog 27 #[.pointer (some ⟨t, 0, none⟩), .int .i64 p, .int .i64 12] (w.drewN d) fun e w' => ∃ (N' : Nds) (g : Nat), e = .returned (.int .i64 g) ∧ g ≤ 3 ∧ Left (w.drewN d) w' t N N' W n m g p 0) :=
      fun d => pdrop t N W n m p hp hw hd 3 0 12 t (by omega) (by omega) (by rw [pg_zero hp]; exact h.heap.t0) _ (h.heap.drewN d)
    clear hx hde hd
    have hot := h.heap.others
    go_enter Try.func12, Try.ntmps12
    go_wp2_with fail
    refine (pget t N W n m p _ h.heap).mono ?_
    rintro e w1 ⟨rfl, d, rfl⟩
    rw [HX.out]
    go_wp2
    have HF : Hid (∀ d w2 N' g, g ≤ 3 → Left (w.drewN d) w2 t N N' W n m g p 0 → ∀ a b : Int, a = (m : Int) - g → b = (n : Int) - 1 → ∃ (N' : Nds) (n' m' : Nat), TabIs ((w2.setCell ⟨t, 49, none⟩ (.int .i64 a)).setCell ⟨t, 48, none⟩ (.int .i64 b)) t N' (delI W p) n' m' ∧ n' ≤ n ∧ Turn (In N) w ((w2.setCell ⟨t, 49, none⟩ (.int .i64 a)).setCell ⟨t, 48, none⟩ (.int .i64 b)) ∧ ∀ c, In N' c → In N c) := by
      intro d w2 N' g hg hL a b ha hb
      rw [HW.out]
      obtain ⟨m', hm', hc⟩ := hL.cnt m h.cntN
      obtain ⟨n', hn', hc'⟩ := h.cnt.n.del' (x := p) hw (Q := fun q => delW W p q ≠ none) (fun y => delW_ne)
      have hdom : ∀ k q, N' k q ≠ none ↔ (k = 0 ∧ q = 0) ∨ ((1 ≤ k ∧ k ≤ 3) ∧ ex (delW W p) k q) := by
        intro k q
        rw [hL.dom, h.dom]
        constructor
        · rintro ⟨h1 | h1, h2⟩
          · exact .inl h1
          · refine .inr ⟨h1.1, ?_⟩
            rcases h2 with h2 | h2
            · omega
            · exact h2
        · rintro (h1 | h1)
          · exact ⟨.inl h1, .inl (by omega)⟩
          · exact ⟨.inr ⟨h1.1, ex_del_of h1.2⟩, .inr h1.2⟩
      have hT : Turn (In N) w w2 := ⟨hL.trn.os, hL.trn.tape, hL.trn.output, hL.trn.size, hL.trn.block⟩
      refine ⟨N', n', m', ⟨?_, hdom, ⟨hc', ?_⟩⟩, by omega, ?_, ?_⟩
      · have h1 := (hL.heap.setOthers a).setWords b
        rw [show a = (m' : Int) by omega, show b = (n' : Int) by omega] at h1 ⊢
        exact h1
      · refine hc.congr fun x => ?_
        rw [hdom]
        constructor
        · rintro ⟨h1, h2 | h2⟩
          · omega
          · exact h2
        · exact fun h1 => ⟨h1.1.1, .inr h1⟩
      · exact (hT.trans (Turn.ofBut (But.setCell _ _ _ _) ⟨0, 0, h.heap.t0⟩)).trans (Turn.ofBut (But.setCell _ _ _ _) ⟨0, 0, h.heap.t0⟩)
      · rintro c ⟨k, q, hc⟩
        exact ⟨k, q, by rw [← hL.sub k q (by rw [hc]; simp)]; exact hc⟩
    clear h
    go_region_with (go_at_call 27; refine (H27.out _).mono ?_; rintro e w2 ⟨N', g, rfl, hg, hL⟩; have q1 := hL.heap.others; have q2 := hL.heap.frozen hL.heap.t0 49; have q3 := hL.heap.words; have q4 := hL.heap.frozen hL.heap.t0 48; have HL : Hid (Left _ w2 t N N' W n m g p 0) := hL; clear hL)
    all_goals
      have r1 : ∀ v, (w2.setCell ⟨t, 49, none⟩ v).cell? ⟨t, 48, none⟩ = some (.int .i64 n) := fun v => (World.cell?_setCell_other _ _ _ _ (by simp)).trans q3
      go_wp2
      go_ret
      obtain ⟨N2, n2, m2, z1, z2, z3, z4⟩ := HF.out _ w2 N' g hg HL.out _ _ (by go_num) (by go_num)
      exact ⟨N2, n2, m2, rfl, z1, z2, z3, z4⟩
end Go.Proofs.Ytaecacbapeogdaa
