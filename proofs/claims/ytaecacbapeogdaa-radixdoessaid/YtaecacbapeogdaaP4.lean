/-
  Contracts of reach and Set.
-/
import Derived.Test.YtaecacbapeogdaaP3
import Derived.Laws.NewBlocks
namespace Go.Proofs.Ytaecacbapeogdaa
open Go.RowKit

/-- How far the way to a page is laid. -/
structure Reach (w w' : World) (t : Nat) (N N' : Nds) (W : Tab) (n : Int) (m m' p k : Nat) : Prop where
  heap : Heap w' t N' W n m'
  dom : ∀ j q, N' j q ≠ none ↔ N j q ≠ none ∨ (j ≤ k ∧ q = pg p j)
  cnt : IsCnt (fun x : Nat × Nat => 1 ≤ x.1 ∧ N' x.1 x.2 ≠ none) m'
  trn : Turn (In N) w w'
  foot : ∀ c, In N' c → In N c ∨ w.heap.size ≤ c
  le : m' ≤ m + k
section
variable {w w' : World} {t : Nat} {N N' : Nds} {W : Tab} {n : Int} {m m' p k b : Nat}
theorem Reach.start (h : Heap w t N W n m) (hp : p < 65536) (hc : IsCnt (fun x : Nat × Nat => 1 ≤ x.1 ∧ N x.1 x.2 ≠ none) m) : Reach w w t N N W n m m p 0 := by
  refine ⟨h, fun j q => ?_, hc, Turn.refl _ _, fun c hc => .inl hc, by omega⟩
  constructor
  · exact .inl
  · rintro (h1 | ⟨h1, rfl⟩)
    · exact h1
    · have : j = 0 := by omega
      subst this
      rw [pg_zero hp, h.t0]; simp
theorem Reach.drewN (h : Reach w w' t N N' W n m m' p k) (d : Nat) : Reach w (w'.drewN d) t N N' W n m m' p k := ⟨h.heap.drewN d, h.dom, h.cnt, h.trn.drewN d, h.foot, h.le⟩
theorem Reach.keep (h : Reach w w' t N N' W n m m' p k) (hn : N' (k + 1) (pg p (k + 1)) ≠ none) : Reach w w' t N N' W n m m' p (k + 1) := by
  refine ⟨h.heap, fun j q => ?_, h.cnt, h.trn, h.foot, by have := h.le; omega⟩
  constructor
  · intro h1
    rcases (h.dom j q).1 h1 with h2 | ⟨h2, h3⟩
    · exact .inl h2
    · exact .inr ⟨by omega, h3⟩
  · rintro (h1 | ⟨h1, rfl⟩)
    · exact (h.dom j q).2 (.inl h1)
    · by_cases e : j = k + 1
      · rw [e]; exact hn
      · exact (h.dom _ _).2 (.inr ⟨by omega, rfl⟩)
theorem Reach.grow (h : Reach w w' t N N' W n m m' p k) (hk : k ≤ 2) (h0 : N 0 0 = some t) (hb : N' k (pg p k) = some b) (hn : N' (k + 1) (pg p (k + 1)) = none) (cs : Array Value) (hcs : cs.toList = emptyRow) :
    Reach w (((w'.alloc (.cells cs 51)).setCell ⟨b, dg p k * 3, none⟩ (.pointer (some ⟨w'.heap.size, 0, none⟩))).setCell ⟨t, 49, none⟩ (.int .i64 ((m' : Int) + 1))) t N (addN N' (k + 1) (pg p (k + 1)) w'.heap.size) W n m (m' + 1) p (k + 1) := by
  have hs := pg_step p (k := k) (by omega)
  have h1 := (h.heap.grow hk hb (dg_lt p k) (by rw [← hs]; exact hn) cs hcs).setOthers ((m' : Int) + 1)
  rw [← hs] at h1
  refine ⟨by exact_mod_cast h1, fun j q => ?_, ?_, ?_, ?_, by have := h.le; omega⟩
  · by_cases e : j = k + 1 ∧ q = pg p (k + 1)
    · obtain ⟨rfl, rfl⟩ := e
      rw [addN_same]
      simp
    · rw [addN_other _ _ _ _ e, h.dom]
      constructor
      · rintro (h2 | ⟨h2, h3⟩)
        · exact .inl h2
        · exact .inr ⟨by omega, h3⟩
      · rintro (h2 | ⟨h2, rfl⟩)
        · exact .inl h2
        · refine .inr ⟨?_, rfl⟩
          have : j ≠ k + 1 := fun ej => e ⟨ej, by rw [ej]⟩
          omega
  · refine h.cnt.add (x := (k + 1, pg p (k + 1))) (fun hx => hx.2 hn) fun y => ?_
    obtain ⟨j, q⟩ := y
    by_cases e : j = k + 1 ∧ q = pg p (k + 1)
    · obtain ⟨rfl, rfl⟩ := e
      simp [addN_same]
    · rw [addN_other _ _ _ _ e]
      simp only [Prod.mk.injEq]
      constructor
      · exact .inl
      · rintro (h2 | h2)
        · exact h2
        · exact absurd h2 e
  · refine ⟨h.trn.os, h.trn.tape, h.trn.output, by have := h.trn.size; simp; omega, fun c hc hC => ?_⟩
    have hct : c ≠ t := fun e => hC ⟨0, 0, by rw [e]; exact h0⟩
    have hcb : c ≠ b := by
      rintro rfl
      rcases h.foot c ⟨_, _, hb⟩ with h2 | h2
      · exact hC h2
      · omega
    rw [heap_setCell_other _ _ c _ hct, heap_setCell_other _ _ c _ hcb, Below.heap_alloc _ _ _ (Nat.lt_of_lt_of_le hc h.trn.size)]
    exact h.trn.block c hc hC
  · rintro c ⟨j, q, hc⟩
    by_cases e : j = k + 1 ∧ q = pg p (k + 1)
    · obtain ⟨rfl, rfl⟩ := e
      rw [addN_same] at hc
      injection hc with hc
      subst hc
      exact .inr h.trn.size
    · rw [addN_other _ _ _ _ e] at hc
      exact h.foot c ⟨_, _, hc⟩
end

set_option maxHeartbeats 2000000 in
theorem preach (t : Nat) (N : Nds) (W : Tab) (n : Int) (m p : Nat) (hp : p < 65536) (hm : m < 1000000) (w : World) (h : Heap w t N W n m) (hcnt : IsCnt (fun x : Nat × Nat => 1 ≤ x.1 ∧ N x.1 x.2 ≠ none) m) :
    Calls Try.prog 29 #[.pointer (some ⟨t, 0, none⟩), .int .i64 p] w fun e w' => ∃ (b m' : Nat) (N' : Nds), e = .returned (.pointer (some ⟨b, dg p 3 * 3, none⟩)) ∧ N' 3 (pg p 3) = some b ∧ Reach w w' t N N' W n m m' p 3 := by
  have hd := fun (w : World) (k sh : Nat) (hk : sh + 4 * k = 12) => pdigit p k sh hp hk w
  have hd3 : ∀ w : World, Calls Try.prog 33 #[.int .i64 p, .int .i64 0] w fun e w' => e = .returned (.int .i64 (dg p 3)) ∧ w' = w := fun w => pdigit p 3 0 hp (by omega) w
  have h0 := h.t0
  have HS : Hid (Reach w w t N N W n m m p 0) := Reach.start h hp hcnt
  have HP : Hid (pg p 0 = 0) := pg_zero hp
  clear h hcnt
  go_enter Try.func29, Try.ntmps29
  go_wp2
  go_loopw [5, 6] (fun s5 s6 wr => ∃ (k b sh m' : Nat) (N' : Nds), s6 = .int .i64 sh ∧ s5 = .pointer (some ⟨b, 0, none⟩) ∧ k ≤ 3 ∧ sh + 4 * k = 12 ∧ N' k (pg p k) = some b ∧ Reach w wr t N N' W n m m' p k) (fun _ s6 _ => (intOf s6).toNat)
  case atStart => exact ⟨0, t, 12, m, N, rfl, by simp, by omega, by omega, by rw [HP.out]; exact h0, HS.out⟩
  case round =>
    clear HS HP
    obtain ⟨k, b, sh, m', N', rfl, rfl, hk, hsh, hb, hr⟩ := hrel
    by_cases h3 : k = 3
    · subst h3
      have : sh = 0 := by omega
      subst this
      have hl := dg_lt p 3
      clear hd
      go_wp2
      go_quiet ((go_at_call 33; exact (hd3 _).mono fun e w' h => ⟨h.1, _, h.2⟩))
      go_wp2
      go_ret
      exact ⟨b, m', N', rfl, hb, hr.drewN _⟩
    · obtain ⟨sh', rfl⟩ : ∃ s, sh = s + 4 := ⟨sh - 4, by omega⟩
      have hk2 : k ≤ 2 := by omega
      have hl := dg_lt p k
      have hc := hr.heap.cell hb hl (j := 0) (by omega)
      have hfr := hr.heap.frozen hb (dg p k * 3)
      have hot := hr.heap.others
      have hft := hr.heap.frozen hr.heap.t0 49
      rw [Nat.add_zero, ← pg_step p hk] at hc
      have hd1 : ∀ w : World, Calls Try.prog 33 #[.int .i64 p, .int .i64 (sh' + 4 : Nat)] w fun e w' => e = .returned (.int .i64 (dg p k)) ∧ w' = w := fun w => hd w k (sh' + 4) hsh
      have hml := hr.le
      clear hd hd3
      cases hn : N' (k + 1) (pg p (k + 1)) with
      | some c =>
        rw [hn] at hc
        have hc' : wr.cell? ⟨b, dg p k * 3, none⟩ = some (.pointer (some ⟨c, 0, none⟩)) := hc
        have HR : Hid (Reach w wr t N N' W n m m' p (k + 1)) := hr.keep (by rw [hn]; simp)
        have HN : Hid (N' (k + 1) (pg p (k + 1)) = some c) := hn
        clear hc hr hn hb
        go_wp2
        go_quiet ((go_at_call 33; exact (hd1 _).mono fun e w' h => ⟨h.1, _, h.2⟩))
        go_wp2
        exact ⟨⟨k + 1, c, sh', m', N', rfl, rfl, by omega, by omega, HN.out, HR.out.drewN _⟩, by simp [intOf]; omega⟩
      | none =>
        rw [hn] at hc
        have hc' : wr.cell? ⟨b, dg p k * 3, none⟩ = some (.pointer none) := hc
        have HR : Hid (Reach w wr t N N' W n m m' p k) := hr
        have HN : Hid (N' (k + 1) (pg p (k + 1)) = none) := hn
        have HB : Hid (N' k (pg p k) = some b) := hb
        have hblt := hr.heap.lt hb
        have htlt := hr.heap.root.lt
        have a1 : ∀ (nq : Nat) (cs : Array Value), ((wr.drewN nq).alloc (.cells cs 51)).cell? ⟨b, dg p k * 3, none⟩ = some (.pointer none) := fun nq cs => (World.cell?_alloc_lt _ _ _ (show b < wr.heap.size from hblt)).trans hc'
        have a2 : ∀ (nq : Nat) (cs : Array Value), ((wr.drewN nq).alloc (.cells cs 51)).frozen? ⟨b, dg p k * 3, none⟩ = false := fun nq cs => (World.frozen?_alloc_past _ _ _ (show b < wr.heap.size from hblt)).trans hfr
        have hne : (⟨b, dg p k * 3, none⟩ : Addr) ≠ ⟨t, 49, none⟩ := by
          intro e
          injection e with e1 e2
          omega
        have a3 : ∀ (nq : Nat) (cs : Array Value) (v : Value), (((wr.drewN nq).alloc (.cells cs 51)).setCell ⟨b, dg p k * 3, none⟩ v).cell? ⟨t, 49, none⟩ = some (.int .i64 m') := fun nq cs v => (World.cell?_setCell_other _ _ _ _ hne).trans ((World.cell?_alloc_lt _ _ _ (show t < wr.heap.size from htlt)).trans hot)
        have a4 : ∀ (nq : Nat) (cs : Array Value), ((wr.drewN nq).alloc (.cells cs 51)).frozen? ⟨t, 49, none⟩ = false := fun nq cs => (World.frozen?_alloc_past _ _ _ (show t < wr.heap.size from htlt)).trans hft
        have a5 : ∀ (nq : Nat) (cs : Array Value) (v u : Value), ((((wr.drewN nq).alloc (.cells cs 51)).setCell ⟨b, dg p k * 3, none⟩ v).setCell ⟨t, 49, none⟩ u).cell? ⟨b, dg p k * 3, none⟩ = some v := fun nq cs v u => (World.cell?_setCell_other _ _ _ _ (Ne.symm hne)).trans (World.cell?_setCell_same _ _ _ (a1 nq cs))
        clear hc hr hn hb hne hfr hot hft
        go_wp2
        go_quiet ((go_at_call 33; exact (hd1 _).mono fun e w' h => ⟨h.1, _, h.2⟩))
        go_wp2
        have hg := (HR.out.drewN nq).grow hk2 h0 HB.out HN.out
        exact ⟨⟨k + 1, wr.heap.size, sh', m' + 1, addN N' (k + 1) (pg p (k + 1)) wr.heap.size, rfl, rfl, by omega, by omega, addN_same _ _ _ _, hg _ rfl⟩, by simp [intOf]; omega⟩

/-! ### Set -/
theorem cell_far (w : World) {b c : Nat} (i j : Nat) (v : Value) (h : b ≠ c) : (w.setCell ⟨c, i, none⟩ v).cell? ⟨b, j, none⟩ = w.cell? ⟨b, j, none⟩ :=
  World.cell?_setCell_other _ _ _ _ (fun e => by injection e with e1; exact h e1.symm)
section
variable {w w' : World} {t : Nat} {N N' : Nds} {W : Tab} {n m : Int} {p b : Nat}
def updW (W : Tab) (p : Nat) (y : Option Int) : Tab := fun q => if q = p then y else W q
theorem updW_some (W : Tab) (p : Nat) (x : Int) : updW W p (some x) = setW W p x := rfl
theorem updW_none (W : Tab) (p : Nat) : updW W p none = delW W p := rfl
/-- A page's own place is written. -/
theorem Heap.leaf (h : Heap w t N W n m) (hp : p < 65536) (hb : N 3 (pg p 3) = some b) (y : Option Int) :
    Heap (((w.setCell ⟨b, dg p 3 * 3, none⟩ (.pointer none)).setCell ⟨b, dg p 3 * 3 + 1, none⟩ (.int .u64 (y.getD 0))).setCell ⟨b, dg p 3 * 3 + 2, none⟩ (.bool y.isSome)) t N (updW W p y) n m := by
  have hs := pg_step p (k := 3) (by omega)
  rw [pg_four] at hs
  have hl := dg_lt p 3
  have h4 : ∀ q, N 4 q = none := by
    intro q
    cases hq : N 4 q with
    | none => rfl
    | some c => have := h.lim 4 q (by rw [hq]; simp); omega
  refine h.write hb hl (fun _ _ _ => rfl) ?_ ?_ ?_ ?_ ?_ ?_ ?_
  · intro k' q' e
    unfold wd
    by_cases hk : k' = 4
    · subst hk
      have : q' ≠ p := fun e' => e ⟨rfl, by omega⟩
      simp [updW, this]
    · simp [hk]
  · have h1 := (((h.row 3 _ b hb).set (dg p 3 * 3) (ptr none)).set (dg p 3 * 3 + 1) (.int .u64 (y.getD 0))).set (dg p 3 * 3 + 2) (.bool y.isSome)
    rw [List.set_append_left _ _ (by rw [nodeCells_len]; omega), List.set_append_left _ _ (by rw [List.length_set, nodeCells_len]; omega), List.set_append_left _ _ (by rw [List.length_set, List.length_set, nodeCells_len]; omega)] at h1
    unfold nodeCells at h1
    rw [nodeRow_all hl] at h1
    rw [h4, ← hs, wd_four]
    have e : updW W p y p = y := by simp [updW]
    rw [e]
    exact h1
  · intro c _ hc
    rw [heap_setCell_other _ _ c _ hc, heap_setCell_other _ _ c _ hc, heap_setCell_other _ _ c _ hc]
  · intro c hc
    rw [h4] at hc
    cases hc
  · intro _ j _
    cases hq : N (3 + 2) (16 * (16 * pg p 3 + dg p 3) + j) with
    | none => rfl
    | some c => have := h.lim _ _ (by rw [hq]; simp : N (3 + 2) (16 * (16 * pg p 3 + dg p 3) + j) ≠ none); omega
  · intro q hq
    by_cases e : q = p
    · rw [e, ← pg_three, hb]; simp
    · exact h.wup q (by simpa [updW, e] using hq)
  · intro q hq
    by_cases e : q = p
    · rw [e]; exact hp
    · exact h.fits q (by simpa [updW, e] using hq)
end

/-- A table: its nodes are those that the document names. -/
structure TabIs (w : World) (t : Nat) (N : Nds) (W : Tab) (n m : Nat) : Prop where
  heap : Heap w t N W n m
  dom : ∀ k q, N k q ≠ none ↔ (k = 0 ∧ q = 0) ∨ ((1 ≤ k ∧ k ≤ 3) ∧ ex W k q)
  cnt : Cnts W n m
section
variable {w w' : World} {t : Nat} {N : Nds} {W : Tab} {n m : Nat}
theorem TabIs.cntN (h : TabIs w t N W n m) : IsCnt (fun x : Nat × Nat => 1 ≤ x.1 ∧ N x.1 x.2 ≠ none) m :=
  h.cnt.m.congr fun x => by
    rw [h.dom]
    constructor
    · rintro ⟨⟨h1, h2⟩, h3⟩
      exact ⟨h1, .inr ⟨⟨h1, h2⟩, h3⟩⟩
    · rintro ⟨h1, h2 | h2⟩
      · omega
      · exact h2
theorem TabIs.below (h : TabIs w t N W n m) (hb : Below w.heap.size w w') : TabIs w' t N W n m := ⟨h.heap.below hb, h.dom, h.cnt⟩
theorem TabIs.drewN (h : TabIs w t N W n m) (d : Nat) : TabIs (w.drewN d) t N W n m := ⟨h.heap.drewN d, h.dom, h.cnt⟩
end
def isPg (x : Int) : Bool := decide (0 ≤ x) && decide (x < 65536)
theorem isPg_nat {p : Nat} (h : p < 65536) : isPg p = true := by simp [isPg]; omega
theorem isPg_true {x : Int} (h : isPg x = true) : ∃ p : Nat, x = p ∧ p < 65536 := by
  simp [isPg] at h
  exact ⟨x.toNat, by omega, by omega⟩
def setI (W : Tab) (x : Int) (v : Int) : Tab := if isPg x then setW W x.toNat v else W
def setE (x : Int) : Int := if isPg x then 0 else 1

set_option maxHeartbeats 2000000 in
theorem pset (t : Nat) (N : Nds) (W : Tab) (n m : Nat) (x v : Int) (hn : n < 100000) (w : World) (h : TabIs w t N W n m) :
    Calls Try.prog 14 #[.pointer (some ⟨t, 0, none⟩), .int .i64 x, .int .u64 v] w fun e w' => ∃ (N' : Nds) (n' m' : Nat), e = .returned (.int .i64 (setE x)) ∧ TabIs w' t N' (setI W x v) n' m' ∧ n' ≤ n + 1 ∧ Turn (In N) w w' ∧ ∀ c, In N' c → In N c ∨ w.heap.size ≤ c := by
  cases hx : isPg x with
  | false =>
    have e1 : (decide (0 ≤ x) && decide (x < 65536)) = false := hx
    have HE : Hid (setE x = 1) := by show _ = _; simp [setE, hx]
    have HW : Hid (setI W x v = W) := by show _ = _; simp [setI, hx]
    clear hx
    go_enter Try.func14, Try.ntmps14
    go_wp2_with fail
    refine (pispage _ _).mono ?_
    rintro e w1 ⟨rfl, rfl⟩
    rw [e1]
    go_wp2
    go_ret
    exact ⟨N, n, m, by rw [HE.out]; rfl, by rw [HW.out]; exact h, by omega, Turn.refl _ _, fun c hc => .inl hc⟩
  | true =>
    obtain ⟨p, rfl, hp⟩ := isPg_true hx
    have e1 : (decide (0 ≤ (p : Int)) && decide ((p : Int) < 65536)) = true := hx
    have HE : Hid (setE p = 0) := by show _ = _; simp [setE, hx]
    have HW : Hid (setI W p v = setW W p v) := by show _ = _; simp [setI, hx]
    have hm3 := h.cnt.le3
    clear hx
    go_enter Try.func14, Try.ntmps14
    go_wp2_with fail
    refine (pispage _ _).mono ?_
    rintro e w1 ⟨rfl, rfl⟩
    rw [e1]
    go_wp2_with fail
    refine (preach t N W n m p hp (by omega) _ h.heap h.cntN).mono ?_
    rintro e w2 ⟨b, m', N', rfl, hb, hr⟩
    have hl := dg_lt p 3
    have hc0 := hr.heap.cell hb hl (j := 0) (by omega)
    have hc1 := hr.heap.cell hb hl (j := 1) (by omega)
    have hc2 := hr.heap.cell hb hl (j := 2) (by omega)
    have h4 : N' 4 (pg p 4) = none := by
      cases hq : N' 4 (pg p 4) with
      | none => rfl
      | some c => have := hr.heap.lim 4 _ (by rw [hq]; simp); omega
    rw [← pg_step p (by omega), wd_four, pg_four] at hc0 hc1 hc2
    rw [pg_four] at h4
    rw [h4] at hc0
    have c0 : w2.cell? ⟨b, dg p 3 * 3, none⟩ = some (.pointer none) := hc0
    have c1 : w2.cell? ⟨b, dg p 3 * 3 + 1, none⟩ = some (.int .u64 ((W p).getD 0)) := hc1
    have f0 := hr.heap.frozen hb (dg p 3 * 3)
    have f1 := hr.heap.frozen hb (dg p 3 * 3 + 1)
    have f2 := hr.heap.frozen hb (dg p 3 * 3 + 2)
    have hne : b ≠ t := fun e => by
      have := (hr.heap.inj _ _ _ _ b hb (by rw [e]; exact hr.heap.t0)).1
      omega
    have hlf := hr.heap.leaf hp hb (some v)
    have HL1 : Hid (Heap ((((w2.setCell ⟨t, 48, none⟩ (.int .i64 ((n : Int) + 1))).setCell ⟨b, dg p 3 * 3, none⟩ (.pointer none)).setCell ⟨b, dg p 3 * 3 + 1, none⟩ (.int .u64 v)).setCell ⟨b, dg p 3 * 3 + 2, none⟩ (.bool true)) t N' (setW W p v) ((n : Int) + 1) m') := (hr.heap.setWords ((n : Int) + 1)).leaf hp hb (some v)
    have hwo := hr.heap.words
    have fw := hr.heap.frozen hr.heap.t0 48
    have HD : Hid (∀ k q, N' k q ≠ none ↔ (k = 0 ∧ q = 0) ∨ ((1 ≤ k ∧ k ≤ 3) ∧ ex (setW W p v) k q)) := by
      intro k q
      rw [hr.dom, h.dom, ex_set]
      constructor
      · rintro ((h1 | ⟨h1, h2⟩) | ⟨h1, rfl⟩)
        · exact .inl h1
        · exact .inr ⟨h1, .inl h2⟩
        · by_cases h0 : k = 0
          · rw [h0, pg_zero hp]; exact .inl ⟨rfl, rfl⟩
          · exact .inr ⟨⟨by omega, h1⟩, .inr rfl⟩
      · rintro (h1 | ⟨h1, h2 | h2⟩)
        · exact .inl (.inl h1)
        · exact .inl (.inr ⟨h1, h2⟩)
        · exact .inr ⟨h1.2, h2⟩
    have HCM : Hid (IsCnt (fun x : Nat × Nat => (1 ≤ x.1 ∧ x.1 ≤ 3) ∧ ex (setW W p v) x.1 x.2) m') := by
      refine hr.cnt.congr fun x => ?_
      rw [HD.out]
      constructor
      · rintro ⟨h1, h2 | h2⟩
        · omega
        · exact h2
      · exact fun h1 => ⟨h1.1.1, .inr h1⟩
    have HF : Hid (∀ c, In N' c → In N c ∨ w1.heap.size ≤ c) := hr.foot
    have hbC : ¬ (¬ In N b ∧ b < w1.heap.size) := fun h1 => by
      rcases hr.foot b ⟨_, _, hb⟩ with h2 | h2
      · exact h1.1 h2
      · omega
    have htC : In N t := ⟨0, 0, h.heap.t0⟩
    have HT : Hid (Turn (In N) w1 w2) := hr.trn
    have HTB : Hid (∀ (W2 : World), Turn (In N) w1 W2 → ∀ (i : Nat) (u : Value), Turn (In N) w1 (W2.setCell ⟨b, i, none⟩ u)) := by
      intro W2 hT i u
      refine ⟨hT.os, hT.tape, hT.output, by have := hT.size; simp; omega, fun c hc hC => ?_⟩
      have hcb : c ≠ b := fun e => hbC ⟨by rw [← e]; exact hC, by omega⟩
      rw [heap_setCell_other _ _ c _ hcb]
      exact hT.block c hc hC
    have HNC : Hid (IsCnt (fun q => W q ≠ none) n) := h.cnt.n
    clear hc0 hc1 h4 hr hbC h
    cases hw : W p with
    | none =>
      rw [hw] at hc2
      have c2 : w2.cell? ⟨b, dg p 3 * 3 + 2, none⟩ = some (.bool false) := hc2
      have HC : Hid (IsCnt (fun q => setW W p v q ≠ none) (n + 1)) := HNC.out.add (x := p) (by rw [hw]; simp) (fun y => setW_ne)
      clear hc2 hw
      have d0 : ∀ u, (w2.setCell ⟨t, 48, none⟩ u).cell? ⟨b, dg p 3 * 3, none⟩ = some (.pointer none) := fun u => (cell_far _ _ _ _ hne).trans c0
      have d1 : ∀ u, (w2.setCell ⟨t, 48, none⟩ u).cell? ⟨b, dg p 3 * 3 + 1, none⟩ = some (.int .u64 ((W p).getD 0)) := fun u => (cell_far _ _ _ _ hne).trans c1
      have d2 : ∀ u, (w2.setCell ⟨t, 48, none⟩ u).cell? ⟨b, dg p 3 * 3 + 2, none⟩ = some (.bool false) := fun u => (cell_far _ _ _ _ hne).trans c2
      clear hlf
      go_wp2
      go_ret
      refine ⟨N', n + 1, m', by rw [HE.out]; rfl, ?_, by omega, ?_, HF.out⟩
      · rw [HW.out]
        exact ⟨by exact_mod_cast HL1.out, HD.out, ⟨HC.out, HCM.out⟩⟩
      · exact HTB.out _ (HTB.out _ (HTB.out _ (HT.out.trans (Turn.ofBut (But.setCell _ _ _ _) htC)) _ _) _ _) _ _
    | some y =>
      rw [hw] at hc2
      have c2 : w2.cell? ⟨b, dg p 3 * 3 + 2, none⟩ = some (.bool true) := hc2
      have HC : Hid (IsCnt (fun q => setW W p v q ≠ none) n) := HNC.out.congr (fun q => by
        rw [setW_ne]
        constructor
        · exact .inl
        · rintro (h1 | rfl)
          · exact h1
          · rw [hw]; simp)
      clear hc2 hw hwo fw
      have HLF : Hid (Heap (((w2.setCell ⟨b, dg p 3 * 3, none⟩ (.pointer none)).setCell ⟨b, dg p 3 * 3 + 1, none⟩ (.int .u64 v)).setCell ⟨b, dg p 3 * 3 + 2, none⟩ (.bool true)) t N' (setW W p v) n m') := hlf
      clear hlf
      go_wp2
      go_ret
      refine ⟨N', n, m', by rw [HE.out]; rfl, ?_, by omega, ?_, HF.out⟩
      · rw [HW.out]
        exact ⟨HLF.out, HD.out, ⟨HC.out, HCM.out⟩⟩
      · exact HTB.out _ (HTB.out _ (HTB.out _ HT.out _ _) _ _) _ _
end Go.Proofs.Ytaecacbapeogdaa
