/-
  A range over the map of pages under way; the ids of an owner, gathered, and sorted.
-/
import Derived.Test.YtponlldgnlckfaaP9
import Derived.Test.YtponlldgnlckfaaShelf
import Derived.Maps.RangeWalk
set_option maxRecDepth 100000
namespace Go.Proofs.Ytponlldgnlckfaa
open Go.RowKit

/-- All that is to come but one. -/
def less (lf : Int → Bool) (x : Int) (y : Int) : Bool := lf y && !(y == x)
/-- The range over the map at block m, its iterator at block r: lf tells of whom is still to come. -/
def Rng (w : World) (m r : Nat) (L : List Pg) (lf : Int → Bool) (cnt : Nat) : Prop :=
  ∃ (n : Nat) (D : DataW Value) (left : Lit → Bool), w.ranges Try.prog 3 asIs m r n D left cnt ∧ Rd 3 mkI D (GP L) ∧ (∀ kl, left kl = true → Maps.has D kl = true) ∧ ∀ x, has L x = true → left (.int .i64 x) = lf x
section
variable {w w' : World} {m r : Nat} {L : List Pg} {lf : Int → Bool} {cnt : Nat}
theorem Rng.left_eq (h : Rng w m r L lf cnt) : w.rangeLeft m r = cnt := by
  obtain ⟨n, D, left, h1, _⟩ := h
  exact h1.left_eq
theorem Rng.ne (h : Rng w m r L lf cnt) : r ≠ m := by
  obtain ⟨n, D, left, h1, _⟩ := h
  exact h1.ne
theorem Rng.kept {row : Option Nat} (h : Rng w m r L lf cnt) (hg : w.grownBy w' row) (hm : some m ≠ row) (hr : some r ≠ row) : Rng w' m r L lf cnt := by
  obtain ⟨n, D, left, h1, h2⟩ := h
  exact ⟨n, D, left, h1.kept hg hm hr, h2⟩
theorem Rng.blocks (h : Rng w m r L lf cnt) (hm : w'.heap[m]? = w.heap[m]?) (hr : w'.heap[r]? = w.heap[r]?) : Rng w' m r L lf cnt := by
  obtain ⟨n, D, left, ⟨es, clock, since, seen, c0, hb, F, hs, hD, hr', rest⟩, h2⟩ := h
  exact ⟨n, D, left, ⟨es, clock, since, seen, c0, hm.trans hb, F, hs, hD, hr.trans hr', rest⟩, h2⟩
theorem grown_of_below (hb : Below w.heap.size w w') : w.grownBy w' none := ⟨hb.os, hb.tape, hb.output, hb.size, fun i hi _ => hb.block i hi⟩
theorem Rng.below (h : Rng w m r L lf cnt) (hb : Below w.heap.size w w') : Rng w' m r L lf cnt := h.kept (grown_of_below hb) (by simp) (by simp)
end
theorem sameKey_int (i j : Int) : (Lit.int .i64 i).sameKey (.int .i64 j) = (i == j) := by
  simp [Lit.sameKey]
  by_cases h : i = j <;> simp [h]
theorem has_wf {L : List Pg} {x : Int} (h : has L x = true) (hL : L.length < 900000) : (Lit.int .i64 x).wf = true := by
  have := (has_iff L x).1 h
  exact WalkArith.wf_i64 (by omega)
theorem rd_has {D : DataW Value} {L : List Pg} (hL : L.length < 900000) (h : Rd 3 mkI D (GP L)) {x : Int} (hx : has L x = true) : Maps.has D (.int .i64 x) = true ∧ ∀ z, D.atKey (.int .i64 x) z = .held (pv (pg L x.toNat)) := by
  have e : GP L x = some (pv (pg L x.toNat)) := by unfold GP; rw [if_pos hx]
  exact (h x _ (Maps.keyOf_int_mk Try.underlying3 (has_wf hx hL))).2 _ e
theorem rd_not {D : DataW Value} {L : List Pg} (h : Rd 3 mkI D (GP L)) {x : Int} (hw : (Lit.int .i64 x).wf = true) (hx : Maps.has D (.int .i64 x) = true) : has L x = true := by
  cases hh : has L x with
  | true => rfl
  | false =>
    have e : GP L x = none := by unfold GP; rw [hh]; rfl
    have := (h x _ (Maps.keyOf_int_mk Try.underlying3 hw)).1 e
    rw [this] at hx; cases hx

/-- 'range' over it, as an operation. -/
theorem wpList_range_rg {w : World} {ops : Array Oper} {rest : List Oper} {o : Oper} {a : Act} {Q : Exit → Act → World → Prop} (hg : o.guard = none) (x : Operand) (hop : o.op = Op.range 62 x) (m n : Nat) (L : List Pg)
    (hm : a.eval x = .map (some m)) (h : MapG 3 mkI w m n (GP L)) (hL : L.length < 900000)
    (hK : ∀ w', Rng w' m w.heap.size L (fun _ => true) n → Below w.heap.size w w' → w'.heap.size = w.heap.size + 1 → wpList Try.prog ops Q rest (a.put o.dst (.pointer (some ⟨w.heap.size, 0, none⟩))) w') :
    wpList Try.prog ops Q (o :: rest) a w := by
  obtain ⟨D, h1, h2, h3⟩ := h
  refine wpList_range_own w hg x 62 hop 3 45 keyed3 Try.underlying62 asIs m _ D hm h1 fun w' hr hgr hs => ?_
  refine hK w' ?_ ⟨hgr.os, hgr.tape, hgr.output, hgr.size, fun k hk => hgr.block k hk (by simp)⟩ hs
  rw [h2] at hr
  exact ⟨_, D, _, hr, h3, fun _ h => h, fun x hx => (rd_has hL h3 hx).1⟩

/-- The step. -/
theorem wpList_next_rg {w : World} {ops : Array Oper} {rest : List Oper} {o : Oper} {a : Act} {Q : Exit → Act → World → Prop} (hg : o.guard = none) (it : Operand) (hop : o.op = Op.next it false) (m r : Nat) (L : List Pg) (lf : Int → Bool) (cnt : Nat)
    (hL : L.length < 900000) (hit : a.eval it = .pointer (some ⟨r, 0, none⟩)) (h : Rng w m r L lf cnt)
    (hDone : (∀ x, has L x = true → lf x = false) → wpList Try.prog ops Q rest (a.put o.dst (.tuple #[.bool false])) w)
    (hMore : ∀ (xi : Int) (y : Pg) (w' : World) (cnt' : Nat), has L xi = true → y = pg L xi.toNat → lf xi = true → Rng w' m r L (less lf xi) cnt' → cnt' < cnt → w.grownBy w' (some r) → w'.heap.size = w.heap.size →
      (Instr.entry (.pointer (some ⟨r, 0, none⟩))).run Try.prog w' = .ok (.tuple #[.int .i64 xi, .agg #[.int .i64 y.kf, .int .i64 y.ki, .int .i64 y.pl, .int .i64 y.at', .int .i64 y.ow, .int .i64 y.rf, .int .i64 0, .bool false, .bool y.dr]]) w' →
      wpList Try.prog ops Q rest (a.put o.dst (.tuple #[.bool true, .int .i64 xi, .agg #[.int .i64 y.kf, .int .i64 y.ki, .int .i64 y.pl, .int .i64 y.at', .int .i64 y.ow, .int .i64 y.rf, .int .i64 0, .bool false, .bool y.dr]])) w') :
    wpList Try.prog ops Q (o :: rest) a w := by
  obtain ⟨n, D, left, h1, h4, h5, h6⟩ := h
  refine wpList_next_ranges w hg it hop 3 keyed3 asIs (Value.int .i64) (fun v : Value => v) (fun key kl hkey => by obtain ⟨x, rfl, _⟩ := Maps.keyOf_int_inv Try.underlying3 hkey; exact ⟨x, rfl⟩) (fun v y _ => ⟨v, rfl⟩) m r n D left cnt hit h1 ?_ ?_
  · intro _ hl
    exact hDone fun x hx => by rw [← h6 x hx]; exact hl _
  · intro i c kl y w' cnt' hkey hlk hv hat hrg hlt hgr hsz hen
    obtain ⟨i', ei, rfl, hw⟩ := Maps.keyOf_int_inv Try.underlying3 hkey
    injection ei with _ ei
    subst ei
    have hx : has L i = true := rd_not h4 hw (h5 _ hlk)
    have e2 := (rd_has hL h4 hx).2 .nil
    rw [hat .nil] at e2
    simp only [asIs, Option.some.injEq] at hv
    subst hv
    injection e2 with e2
    subst e2
    refine hMore i _ w' cnt' hx rfl (by rw [← h6 i hx]; exact hlk) ⟨n, D, _, hrg, h4, fun kl hkl => h5 kl (by simp at hkl; exact hkl.1), fun z hz => ?_⟩ hlt hgr hsz hen
    rw [sameKey_int, h6 z hz]
    rfl

/-! ### gathered -/
def Col (L : List Pg) (o : Int) (lf : Int → Bool) (ss : List Int) : Prop := ss.Nodup ∧ ∀ x, x ∈ ss ↔ has L x = true ∧ lf x = false ∧ (pg L x.toNat).ow = o
theorem Col.start (L : List Pg) (o : Int) : Col L o (fun _ => true) [] := ⟨List.nodup_nil, fun x => by simp⟩
theorem Col.more {L : List Pg} {o : Int} {lf : Int → Bool} {ss : List Int} (h : Col L o lf ss) {x : Int} (hx : has L x = true) (hl : lf x = true) (ho : (pg L x.toNat).ow = o) : Col L o (less lf x) (ss ++ [x]) := by
  have hnew : x ∉ ss := fun hm => by have := ((h.2 x).1 hm).2.1; rw [hl] at this; cases this
  refine ⟨List.nodup_append.2 ⟨h.1, by simp, fun a ha b hb => by simp at hb; subst hb; exact fun e => hnew (e ▸ ha)⟩, fun y => ?_⟩
  by_cases hy : y = x
  · subst hy; simp [less, hx, ho]
  · simp [h.2 y, hy, less]
theorem Col.skip {L : List Pg} {o : Int} {lf : Int → Bool} {ss : List Int} (h : Col L o lf ss) {x : Int} (ho : (pg L x.toNat).ow ≠ o) : Col L o (less lf x) ss := by
  refine ⟨h.1, fun y => ?_⟩
  rw [h.2 y]
  by_cases hy : y = x
  · subst hy; simp [ho]
  · simp [hy, less]
theorem ids_nodup (L : List Pg) (p : Pg → Bool) : (idsL L p).Nodup := (ids_rising L p L.length).imp fun h => by omega
theorem Col.perm {L : List Pg} {o : Int} {lf : Int → Bool} {ss : List Int} (h : Col L o lf ss) (hl : ∀ x, has L x = true → lf x = false) : ss.Perm (idsL L (anyP false o)) := by
  refine (List.perm_ext_iff_of_nodup h.1 (ids_nodup L _)).2 fun x => ?_
  rw [h.2 x]
  unfold idsL
  rw [ids_mem]
  constructor
  · intro ⟨h1, h2, h3⟩
    obtain ⟨k, rfl, hk, hg⟩ := has_nat' h1
    have h3' : (pg L k).ow = o := h3
    exact ⟨k, hk, rfl, hg, by simp [anyP, h3']⟩
  · rintro ⟨k, hk, rfl, hg, hp⟩
    have hh := (has_nat L k).2 ⟨hk, hg⟩
    exact ⟨hh, hl _ hh, by simpa [anyP] using hp⟩
theorem sort_ids {L : List Pg} {p : Pg → Bool} {ss : List Int} (h : ss.Perm (idsL L p)) : ss.mergeSort (fun x y => decide (x ≤ y)) = idsL L p := by
  rw [mergeSort_of_perm_i h]
  refine List.mergeSort_of_pairwise ?_
  exact (ids_rising L p L.length).imp fun h => by simp; omega
theorem ids_wf {L : List Pg} {p : Pg → Bool} (hL : L.length < 900000) : ∀ x ∈ idsL L p, (Lit.int .i64 x).wf = true := by
  intro x hx
  obtain ⟨m, hm, rfl, -, -⟩ := (ids_mem L _ _ _).1 hx
  exact WalkArith.wf_i64 (by omega)
end Go.Proofs.Ytponlldgnlckfaa
