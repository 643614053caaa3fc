/-
  A range over the map under way, told by the list; the contract of Count.
-/
import Derived.Test.YtfmgmelgfnppkaaP3
namespace Go.Proofs.Ytfmgmelgfnppkaa
open Go.RowKit

/-- The range over the map at block m, its iterator at block r: lf tells of whom of L is still to come. -/
def Rg (w : World) (m r : Nat) (L : List En) (lf : Int → Bool) (cnt : Nat) : Prop :=
  ∃ (n : Nat) (D : DataW Value) (left : Lit → Bool), w.ranges Try.prog 3 asIs m r n D left cnt ∧ n < 1000000 ∧ Maps.size D = L.length ∧ Rd D L ∧ (∀ kl, left kl = true → Maps.has D kl = true) ∧ ∀ x ∈ L, left (.int .i64 x.i) = lf x.i
section
variable {w w' : World} {m r : Nat} {L : List En} {lf : Int → Bool} {cnt : Nat}
theorem Rg.left_eq (h : Rg w m r L lf cnt) : w.rangeLeft m r = cnt := by
  obtain ⟨n, D, left, h1, _⟩ := h
  exact h1.left_eq
theorem Rg.ne (h : Rg w m r L lf cnt) : r ≠ m := by
  obtain ⟨n, D, left, h1, _⟩ := h
  exact h1.ne
theorem Rg.lt (h : Rg w m r L lf cnt) : r < w.heap.size := by
  obtain ⟨n, D, left, h1, _⟩ := h
  exact h1.lt
theorem Rg.mapIs (h : Rg w m r L lf cnt) : MapIs w m L := by
  obtain ⟨n, D, left, h1, h2, h3, h4, _⟩ := h
  exact ⟨D, own_fit h1.owns (Nat.le_of_eq h3), h3, h4⟩
theorem Rg.kept {row : Option Nat} (h : Rg w m r L lf cnt) (hg : w.grownBy w' row) (hm : some m ≠ row) (hr : some r ≠ row) : Rg w' m r L lf cnt := by
  obtain ⟨n, D, left, h1, h2⟩ := h
  exact ⟨n, D, left, h1.kept hg hm hr, h2⟩
theorem grown_of_below (hb : Below w.heap.size w w') : w.grownBy w' none := ⟨hb.os, hb.tape, hb.output, hb.size, fun i hi _ => hb.block i hi⟩
theorem Rg.below (h : Rg w m r L lf cnt) (hb : Below w.heap.size w w') : Rg w' m r L lf cnt := h.kept (grown_of_below hb) (by simp) (by simp)
end

theorem sameKey_int (i j : Int) : (Lit.int .i64 i).sameKey (.int .i64 j) = (i == j) := by
  simp [Lit.sameKey]
  by_cases h : i = j <;> simp [h]

/-- 'range' over it, as an operation. -/
theorem wpList_range_rg {w : World} {ops : Array Oper} {rest : List Oper} {o : Oper} {a : Act} {Q : Exit → Act → World → Prop} (hg : o.guard = none) (x : Operand) (hop : o.op = Op.range 50 x) (m : Nat) (L : List En)
    (hm : a.eval x = .map (some m)) (h : MapIs w m L) (hL : L.length < 1000000)
    (hK : ∀ w', Rg w' m w.heap.size L (fun _ => true) L.length → Below w.heap.size w w' → w'.heap.size = w.heap.size + 1 → wpList Try.prog ops Q rest (a.put o.dst (.pointer (some ⟨w.heap.size, 0, none⟩))) w') :
    wpList Try.prog ops Q (o :: rest) a w := by
  obtain ⟨D, h1, h2, h3⟩ := h
  refine wpList_range_own w hg x 50 hop 3 56 keyed Try.underlying50 asIs m _ D hm h1 fun w' hr hgr hs => ?_
  refine hK w' ?_ ⟨hgr.os, hgr.tape, hgr.output, hgr.size, fun k hk => hgr.block k hk (by simp)⟩ hs
  rw [h2] at hr
  refine ⟨_, D, _, hr, hL, h2, h3, fun _ h => h, fun x hx => ?_⟩
  cases hq : lk L x.i with
  | none => exact absurd rfl (lk_none.1 hq x hx)
  | some y => exact ((h3 x.i).2 y hq).1

/-- The step. -/
theorem wpList_next_rg {w : World} {ops : Array Oper} {rest : List Oper} {o : Oper} {a : Act} {Q : Exit → Act → World → Prop} (hg : o.guard = none) (it : Operand) (hop : o.op = Op.next it false) (m r : Nat) (L : List En) (lf : Int → Bool) (cnt : Nat)
    (hit : a.eval it = .pointer (some ⟨r, 0, none⟩)) (h : Rg w m r L lf cnt)
    (hDone : (∀ x ∈ L, lf x.i = false) → wpList Try.prog ops Q rest (a.put o.dst (.tuple #[.bool false])) w)
    (hMore : ∀ (xi xg xa : Int) (w' : World) (cnt' : Nat), (⟨xi, xg, xa⟩ : En) ∈ L → lf xi = true → Rg w' m r L (less lf xi) cnt' → cnt' < cnt → w.grownBy w' (some r) → w'.heap.size = w.heap.size →
      (Instr.entry (.pointer (some ⟨r, 0, none⟩))).run Try.prog w' = .ok (.tuple #[.int .i64 xi, .agg #[.int .i64 xg, .int .i64 xa]]) w' → wpList Try.prog ops Q rest (a.put o.dst (.tuple #[.bool true, .int .i64 xi, .agg #[.int .i64 xg, .int .i64 xa]])) w') :
    wpList Try.prog ops Q (o :: rest) a w := by
  obtain ⟨n, D, left, h1, h2, h3, h4, h5, h6⟩ := h
  refine wpList_next_ranges w hg it hop 3 keyed asIs (Value.int .i64) (fun v : Value => v) (fun key kl hkey => by obtain ⟨x, rfl, _⟩ := Maps.keyOf_int_inv Try.underlying3 hkey; exact ⟨x, rfl⟩) (fun v y _ => ⟨v, rfl⟩) m r n D left cnt hit h1 ?_ ?_
  · intro _ hl
    exact hDone fun x hx => by rw [← h6 x hx]; exact hl _
  · intro i c kl y w' cnt' hkey hlk hv hat hrg hlt hgr hsz hen
    obtain ⟨i', ei, rfl, hw⟩ := Maps.keyOf_int_inv Try.underlying3 hkey
    injection ei with _ ei
    subst ei
    obtain ⟨g1, g2⟩ := h4 i
    cases hq : lk L i with
    | none => have := h5 _ hlk; rw [g1 hq] at this; cases this
    | some x =>
      obtain ⟨hxL, hxi⟩ := lk_some hq
      have e2 := (g2 x hq).2 .nil
      rw [hat .nil] at e2
      simp only [asIs, Option.some.injEq] at hv
      subst hv
      injection e2 with e2
      subst e2
      subst hxi
      refine hMore x.i x.g x.a w' cnt' hxL (by rw [← h6 x hxL]; exact hlk) ⟨n, D, _, hrg, h2, h3, h4, fun kl hkl => h5 kl (by simp at hkl; exact hkl.1), fun z hz => ?_⟩ hlt hgr hsz hen
      rw [sameKey_int, h6 z hz]
      rfl

/-- A store at one that is there, in the midst of the range. -/
theorem Rg.put {w : World} {m r : Nat} {L L' : List En} {lf : Int → Bool} {cnt : Nat} (h : Rg w m r L lf cnt) {i g a : Int} (hi : (Lit.int .i64 i).wf = true) (hin : (lk L i).isSome = true) (hlen : L'.length = L.length)
    (hlk : ∀ j, lk L' j = if j = i then some ⟨i, g, a⟩ else lk L j) (hids : ∀ y ∈ L', ∃ z ∈ L, z.i = y.i) :
    ∃ w', (Instr.mapUpdate 50 (.map (some m)) (.int .i64 i) (.agg #[.int .i64 g, .int .i64 a])).run Try.prog w = .ok () w' ∧ Rg w' m r L' lf cnt ∧ But m w w' := by
  obtain ⟨n, D, left, h1, h2, h3, h4, h5, h6⟩ := h
  have hhas : Maps.has D (.int .i64 i) = true := by
    obtain ⟨x, hx⟩ := some_ok hin
    exact ((h4 i).2 x hx).1
  obtain ⟨w', hrun, r1, r2, r3⟩ := ranges_put h1 keyed Try.underlying50 (by unfold maxLen; omega) (keyOf_i hi) (show asIs (sv g a) = some (.held (sv g a), []) from rfl) hhas
  refine ⟨w', hrun, ⟨n, _, left, r1, h2, ?_, rd_put h1.owns.isMap hi h4 hlk, fun kl hkl => ?_, fun y hy => ?_⟩, ⟨r2.os, r2.tape, r2.output, r3, fun k hk => ?_⟩⟩
  · rw [size_of_put (L := L) (L' := L') (h1.owns.tidy keyed) h4 h3 (by rw [hin, hlen]; rfl)]
  · by_cases he : kl = .int .i64 i
    · subst he
      exact Maps.has_put_same h1.owns.isMap (isKey hi) _
    · rw [Maps.has_put_other he]
      exact h5 kl hkl
  · obtain ⟨z, hz, e⟩ := hids y hy
    rw [← e]
    exact h6 z hz
  · by_cases hlt : k < w.heap.size
    · exact r2.block k hlt (by intro e; injection e with e; exact hk e)
    · rw [Array.getElem?_eq_none (by omega), Array.getElem?_eq_none (by omega)]

theorem less_rng {L : List En} (h : Ok L) {i g a : Int} (hx : (⟨i, g, a⟩ : En) ∈ L) : (Lit.int .i64 i).wf = true := wf_rng (h.rng _ hx)

set_option maxHeartbeats 1000000 in
theorem pcount (t m : Nat) (L : List En) (g : Int) (w : World) (h : LsIs w t m L) (hL : L.length < 1000000) :
    Calls Try.prog 14 #[.pointer (some ⟨t, 0, none⟩), .int .i64 g] w fun e w' => e = .returned (.int .i64 (cntL L g : Nat)) ∧ Below w.heap.size w w' := by
  have hc := h.c0
  have hm := h.m
  have HS : Hid (Srt L) := h.ok.srt
  have HN : Hid (∀ lf, cameN L (fun x => x.g == g) lf < 1000000) := fun lf => Nat.lt_of_le_of_lt (cameN_le L _ lf) hL
  clear h
  go_enter Try.func14, Try.ntmps14
  go_wp2_with (at_range; refine wpList_range_rg rfl _ rfl m L rfl hm hL ?_; intro w0 hrg0 hb0 hs0)
  go_frame
  go_loopw [5] (fun s5 wr => ∃ (lf : Int → Bool) (cnt n : Nat), s5 = .int .i64 n ∧ n = cameN L (fun x => x.g == g) lf ∧ Rg wr m w.heap.size L lf cnt ∧ Below w.heap.size w wr) (fun _ wr => wr.rangeLeft m w.heap.size)
  case atStart => exact ⟨fun _ => true, _, 0, rfl, (cameN_start fun _ _ => rfl).symm, hrg0, hb0⟩
  case round =>
    obtain ⟨lf, cnt, n, rfl, hn, hrg, hb⟩ := hrel
    have HC : Hid (n = cameN L (fun x => x.g == g) lf) := hn
    have hnl := HN.out lf
    rw [← hn] at hnl
    clear hn hrg0 hb0 hs0 hm hc
    have hrs := hb.size
    go_wp2_with (at_next; refine wpList_next_rg rfl _ rfl m w.heap.size L lf cnt rfl hrg ?_ ?_)
    · intro hd
      have HF : Hid (n = cntL L g) := by show _ = _; rw [HC.out, cameN_end hd]; rfl
      go_wp2
      go_ret
      exact ⟨by rw [← HF.out]; rfl, hb⟩
    · intro xi xg xa w1 cnt1 hx hl hrg1 hlt hg1 hs1 hen
      have hb1 : Below w.heap.size w w1 := hb.grown hg1 hrs (fun k hk => by injection hk with hk; omega)
      have HM : Hid (cnt1 < cnt) := hlt
      have HR : Hid (Rg wr m w.heap.size L lf cnt) := hrg
      have hstep := cameN_step HS.out (fun x => x.g == g) hx hl
      by_cases he : xg = g
      · have HC1 : Hid (cameN L (fun x => x.g == g) (less lf xi) = n + 1) := by show _ = _; rw [hstep, HC.out]; simp [he]
        have hd : (xg == g) = true := by simpa using he
        clear hstep hlt hrg hx hl he
        go_wp2
        go_roundw
        case rel => exact ⟨less lf xi, cnt1, n + 1, by go_num, HC1.out.symm, hrg1.below (below_alloc _ _), bel_trans hb1 (below_alloc _ _) (Nat.le_refl _)⟩
        case measure => rw [(hrg1.below (below_alloc _ _)).left_eq, HR.out.left_eq]; exact HM.out
      · have HC1 : Hid (cameN L (fun x => x.g == g) (less lf xi) = n) := by show _ = _; rw [hstep, HC.out]; simp [he]
        have hd : (xg == g) = false := by simpa using he
        clear hstep hlt hrg hx hl he
        go_wp2
        go_roundw
        case rel => exact ⟨less lf xi, cnt1, n, by go_num, HC1.out.symm, hrg1.below (below_alloc _ _), bel_trans hb1 (below_alloc _ _) (Nat.le_refl _)⟩
        case measure => rw [(hrg1.below (below_alloc _ _)).left_eq, HR.out.left_eq]; exact HM.out
end Go.Proofs.Ytfmgmelgfnppkaa
