/-
  The document's store: contracts of Read and Write.
-/
import Derived.Test.YtmemciebpnamkaaR1
import Derived.Test.YtmemciebpnamkaaEq
namespace Go.Proofs.Ytmemciebpnamkaa
open Go.RowKit

/-- append to a row of its own, as one step of a region that draws. -/
theorem step_append_own {P : Program} {ops : Array Oper} {o : Oper} {a : Act} {w : World} {K : Act → World → Prop} {Q : Exit → Act → World → Prop} {E : Prop}
    (hg : o.guard = none) (s x : Operand) (t : TypeId) (hop : o.op = Op.call { callee := Callee.builtin Builtin.append, args := #[s, x], argTypes := #[t, t] })
    (B : Nat) (e : TypeId) (z : Value) (size bytes : Nat) (h1 : P.underlying t = some (.slice e)) (h2 : (P.info? e).map (fun i => (i.zero, i.size, i.bytes)) = some (some z, size, bytes)) (h6 : z.cells.size = size) (h7 : 0 < size)
    (v : Value) (n : Nat) (xs : List Value) (hs : a.eval s = v) (hown : w.ownsRow B e size v n xs)
    (ad : Addr) (m c : Nat) (news : List Value) (hx : a.eval x = .slice (some ad) m c) (hn : news.length = m * size) (hc : ∀ j u, news[j]? = some u → w.cell? (ad.add j) = some u) (h1c : ∀ u ∈ news, u.oneCell' = true)
    (b1 : n + m ≤ maxLen) (b2 : (n + m) * bytes ≤ 140737488355328) (hB : B ≤ w.heap.size)
    (hK : ∀ a' c' w', w'.ownsRow B e size (.slice a' (n + m) c') (n + m) (xs ++ news) → w.grownBy w' v.ownBlock → K (a.put o.dst (.slice a' (n + m) c')) w') :
    if Region.wanted o (yielded ops a.tmps) = true then Oper.wp P o a w K Q else E := by
  have hw : Region.wanted o (yielded ops a.tmps) = true := by simp [Region.wanted, hg]
  rw [if_pos hw]
  obtain ⟨i, hi, hz0, hz1, hz2⟩ := info_parts h2
  obtain ⟨v', w', hrun, r1, r2, _⟩ := run_append_own (P := P) w B t o.type e i z size bytes h1 hi hz0 hz1 hz2 h6 h7 v n xs hown ad m c news hn hc h1c b1 b2 hB
  obtain ⟨a', c', rfl, _⟩ := own_form r1
  unfold Oper.wp
  simp [execOp, hop, resolve, invoke, builtin, hs, hx, hrun, Result.andThen]
  exact hK a' c' w' r1 r2

theorem info53 : (Try.prog.info? 53).map (fun i => (i.zero, i.size, i.bytes)) = some (some (.agg #[.int .i64 0, .int .i64 0, .string ⟨#[]⟩]), 3, 32) := by kernel_rfl

theorem lookL_take (L : List Ent) (f i : Int) (j : Nat) (hj : j < L.length) : lookL (L.take (j + 1)) f i = if (L[j].f == f && L[j].i == i) then some L[j].t else lookL (L.take j) f i := by
  rw [← List.take_append_getElem hj]
  unfold lookL
  simp only [List.reverse_append, List.reverse_cons, List.reverse_nil, List.nil_append, List.cons_append, List.find?_cons]
  cases (L[j].f == f && L[j].i == i) <;> rfl

set_option maxHeartbeats 2000000 in
theorem rread (B r : Nat) (S : List Nat) (L : List Ent) (vs vl : Value) (f i : Int) (w : World) (h : RefIs w B r S L vs vl) (hL : L.length < 1000000) :
    Calls Try.prog 16 #[.pointer (some ⟨r, 0, none⟩), .agg #[.int .i64 f, .int .i64 i]] w fun e w' => e = .returned (.tuple #[.string (readT S L f i), .int .i64 (readE S f i)]) ∧ Below w.heap.size w w' := by
  cases h1 : hasK S f i with
  | false =>
    have HB : Hid (readT S L f i = ByteArray.empty) := readT_no h1
    have HE : Hid (readE S f i = 2) := readE_no h1
    have H1 : Hid (hasK S f i = false) := h1
    clear h1
    go_enter Try.func16, Try.ntmps16
    go_wp2_with fail
    refine (rhas B r S L vs vl f i _ (h.alloc _)).mono ?_
    rintro e w1 ⟨rfl, hb1⟩
    rw [H1.out]
    have hb := (below_alloc w (.cells #[.int .i64 f, .int .i64 i] 25)).trans (hb1.mono (by simp))
    clear hb1
    go_wp2_with fail
    go_ret2
    exact ⟨by rw [HB.out, HE.out]; rfl, hb⟩
  | true =>
    have H1 : Hid (hasK S f i = true) := h1
    have HE : Hid (readE S f i = 0) := readE_ok h1
    have HT1 : Hid (∀ T, lookL L f i = some T → readT S L f i = ⟨T.toArray⟩) := fun T hT => readT_some h1 hT
    have HT2 : Hid (lookL L f i = none → readT S L f i = ⟨(firstT f i).toArray⟩) := fun hT => readT_none h1 hT
    clear h1
    go_enter Try.func16, Try.ntmps16
    go_wp2_with fail
    refine (rhas B r S L vs vl f i _ (h.alloc _)).mono ?_
    rintro e w1 ⟨rfl, hb1⟩
    rw [H1.out]
    have hb := (below_alloc w (.cells #[.int .i64 f, .int .i64 i] 25)).trans (hb1.mono (by simp))
    have h2 := (h.alloc (.cells #[.int .i64 f, .int .i64 i] 25)).below hb1
    have hkr : RowAt w1 w.heap.size 25 [.int .i64 f, .int .i64 i] := (RowAt.new w #[.int .i64 f, .int .i64 i] 25).below hb1 (by simp)
    clear hb1 h
    obtain ⟨a, cap, rfl⟩ := h2.lenL
    have hc1 := h2.c1
    go_wp2
    clear hc1
    go_loopw [6] (fun s6 wr => ∃ j : Nat, j ≤ L.length ∧ s6 = .int .i64 ((j : Int) - 1) ∧ lookL L f i = lookL (L.take j) f i ∧ RefIs wr B r S L vs (.slice a L.length cap) ∧ RowAt wr w.heap.size 25 [.int .i64 f, .int .i64 i] ∧ Below w.heap.size w wr) (fun s6 _ => (intOf s6 + 1).toNat)
    case atStart => exact ⟨L.length, Nat.le_refl _, by go_num, by rw [List.take_length], h2, hkr, hb⟩
    case round =>
      clear h2 hkr hb
      obtain ⟨j, hj, rfl, hlk, hr, hkr, hb⟩ := hrel
      have hk0 : wr.cell? ⟨w.heap.size, 0, none⟩ = some (.int .i64 f) := by rw [hkr.cell]; rfl
      have hk1 : wr.cell? ⟨w.heap.size, 1, none⟩ = some (.int .i64 i) := by rw [hkr.cell]; rfl
      cases j with
      | zero =>
        have HB : Hid (readT S L f i = ⟨(firstT f i).toArray⟩) := HT2.out (by rw [hlk]; rfl)
        clear hlk HT1 HT2
        go_wp2_with fail
        refine (rfirst f i _).mono ?_
        rintro e w5 ⟨rfl, hb5⟩
        go_wp2_with fail
        go_ret2
        exact ⟨by rw [HB.out, HE.out]; rfl, hb.trans (hb5.mono hb.size)⟩
      | succ j =>
        have hjl : j < L.length := by omega
        rw [lookL_take L f i j hjl] at hlk
        obtain ⟨g, cap', hv, e0, e1, e2⟩ := hr.ent hjl
        injection hv with hv1 _ hv2
        subst hv1
        subst hv2
        have hc1 := hr.c1
        have hjj : (((j + 1 : Nat) : Int) - 1) = (j : Int) := by omega
        rw [hjj]
        obtain ⟨F, hF⟩ : ∃ F, F = L[j].f := ⟨_, rfl⟩
        obtain ⟨I, hI⟩ : ∃ F, F = L[j].i := ⟨_, rfl⟩
        obtain ⟨T, hT⟩ : ∃ F, F = L[j].t := ⟨_, rfl⟩
        obtain ⟨t, ht⟩ : ∃ t : ByteArray, t = ⟨T.toArray⟩ := ⟨_, rfl⟩
        rw [← hF] at e0 hlk
        rw [← hI] at e1 hlk
        rw [← hT] at hlk
        rw [← hT, ← ht] at e2
        have HT : Hid (t = ⟨T.toArray⟩) := ht
        have HL : Hid (lookL L f i = if (F == f && I == i) = true then some T else lookL (List.take j L) f i) := hlk
        have hqq := fun w => eq25 F I f i w
        have hgt := guard25
        clear hF hI hT ht hlk hjj
        cases hq : (F == f && I == i) with
        | true =>
          have HB : Hid (readT S L f i = ⟨T.toArray⟩) := HT1.out T (by rw [HL.out, if_pos hq])
          rw [hq] at hqq
          clear hq HL HT1 HT2
          go_wp2
          go_quiet (fail)
          go_wp2
          go_ret2
          exact ⟨by rw [HB.out, HE.out, HT.out]; rfl, below_drawn hb _⟩
        | false =>
          have HL2 : Hid (lookL L f i = lookL (List.take j L) f i) := by show _ = _; rw [HL.out, if_neg (by rw [hq]; decide)]
          rw [hq] at hqq
          clear hq HL
          go_wp2
          go_quiet (fail)
          go_wp2
          exact ⟨⟨j, by omega, by go_num, HL2.out, hr.drewN _, hkr.drewN _, below_drawn hb _⟩, by simp [intOf]⟩

theorem RefIs.newL {w w1 w' : World} {B r : Nat} {S : List Nat} {L : List Ent} {vs vl : Value} {e : Ent} {a' : Option Addr} {c' : Nat} (h : RefIs w B r S L vs vl) (hb : Below w.heap.size w w1)
    (hown : w'.ownsRow B 53 3 (.slice a' (L.length + 1) c') (L.length + 1) (flat L ++ entCells e)) (hg : w1.grownBy w' vl.ownBlock) :
    w'.cell? ⟨r, 1, none⟩ = some vl ∧ w'.frozen? ⟨r, 1, none⟩ = false ∧ RefIs (w'.setCell ⟨r, 1, none⟩ (.slice a' (L.length + 1) c')) B r S (L ++ [e]) vs (.slice a' (L.length + 1) c') ∧ Turn (fun k => B ≤ k) w (w'.setCell ⟨r, 1, none⟩ (.slice a' (L.length + 1) c')) := by
  have hvl : ∀ k, vl.ownBlock = some k → B ≤ k ∧ ∃ cur, w.heap[k]? = some (.cells cur 53 (0, 0)) := by
    intro k hk
    rcases h.l.2 with ⟨rfl, _⟩ | ⟨g, cap, cur, rfl, hg, hgg, _⟩
    · simp [Value.ownBlock] at hk
    · simp [Value.ownBlock] at hk
      subst hk
      exact ⟨hg, cur, hgg⟩
  have hkeep : ∀ (k : Nat) (t : TypeId) cur, t ≠ 53 → w.heap[k]? = some (.cells cur t (0, 0)) → w'.heap[k]? = some (.cells cur t (0, 0)) := by
    intro k t cur ht hk
    have hlt := lt_of_block hk
    rw [hg.block k (Nat.lt_of_lt_of_le hlt hb.size) ?_, hb.block k hlt, hk]
    intro hh
    obtain ⟨_, cur', h2⟩ := hvl k hh.symm
    rw [hk] at h2
    injection h2 with h2
    injection h2 with _ h2
    exact ht h2
  have hrow : RowAt w' r 34 [vs, vl] := hkeep r 34 _ (by decide) h.h
  have hrowS : w'.ownsRow B 3 1 vs S.length (S.map iv) := by
    refine ⟨h.s.1, ?_⟩
    rcases h.s.2 with hn | ⟨g, cap, cur, rfl, hg, hgg, rest⟩
    · exact .inl hn
    · exact .inr ⟨g, cap, cur, rfl, hg, hkeep g 3 cur (by decide) hgg, rest⟩
  have hset : ∀ (v : Value) (t : TypeId) (c n : Nat) xs, t ≠ 34 → w'.ownsRow B t c v n xs → (w'.setCell ⟨r, 1, none⟩ (.slice a' (L.length + 1) c')).ownsRow B t c v n xs := by
    intro v t c n xs ht ho
    refine ⟨ho.1, ?_⟩
    rcases ho.2 with hn | ⟨g, cap, cur, rfl, hg, hgg, rest⟩
    · exact .inl hn
    · refine .inr ⟨g, cap, cur, rfl, hg, ?_, rest⟩
      rw [heap_setCell_other w' _ g _ ?_]
      · exact hgg
      · rintro rfl
        unfold RowAt at hrow
        rw [hgg] at hrow
        injection hrow with h2
        injection h2 with _ h2
        exact ht h2
  refine ⟨by rw [hrow.cell]; rfl, hrow.frozen 1, ⟨?_, hset _ _ _ _ _ (by decide) hrowS, ?_, h.lo, h.le, h.sz⟩, ?_⟩
  · have := hrow.set 1 (.slice a' (L.length + 1) c')
    simpa using this
  · rw [List.length_append, flat_snoc]
    exact hset _ _ _ _ _ (by decide) hown
  · have t1 : Turn (fun k => B ≤ k) w w1 := Turn.ofBelow hb
    have t2 : Turn (fun k => B ≤ k) w1 w' := ⟨hg.os, hg.tape, hg.output, hg.size, fun k hk hn => hg.block k hk (fun hh => hn (hvl k hh.symm).1)⟩
    exact (t1.trans t2).trans (Turn.ofBut (But.setCell r 1 _ _) h.lo)

set_option maxHeartbeats 2000000 in
theorem rwrite (B r : Nat) (S : List Nat) (L : List Ent) (vs vl : Value) (f i : Int) (T : List UInt8) (w : World) (h : RefIs w B r S L vs vl) (hL : L.length < 1000000) (hB : B ≤ w.heap.size) :
    Calls Try.prog 14 #[.pointer (some ⟨r, 0, none⟩), .agg #[.int .i64 f, .int .i64 i], .string ⟨T.toArray⟩] w fun e w' => e = .returned (.int .i64 (writeE S f i T)) ∧ (∃ vl', RefIs w' B r S (writeL S L f i T) vs vl') ∧ Turn (fun k => B ≤ k) w w' := by
  obtain ⟨t, ht⟩ : ∃ t : ByteArray, t = ⟨T.toArray⟩ := ⟨_, rfl⟩
  have hsz : t.size = T.length := by rw [ht]; simp [ByteArray.size]
  rw [← ht]
  have HT : Hid (t = ⟨T.toArray⟩) := ht
  clear ht
  cases h1 : hasK S f i with
  | false =>
    have HB : Hid (writeL S L f i T = L) := writeL_no h1
    have HE : Hid (writeE S f i T = 2) := writeE_no h1
    have H1 : Hid (hasK S f i = false) := h1
    clear h1
    go_enter Try.func14, Try.ntmps14
    go_wp2_with fail
    refine (rhas B r S L vs vl f i _ (h.alloc _)).mono ?_
    rintro e w1 ⟨rfl, hb1⟩
    rw [H1.out]
    have hb := (below_alloc w (.cells #[.int .i64 f, .int .i64 i] 25)).trans (hb1.mono (by simp))
    have h2 := (h.alloc (.cells #[.int .i64 f, .int .i64 i] 25)).below hb1
    clear hb1
    go_wp2_with fail
    go_ret
    exact ⟨by rw [HE.out]; rfl, ⟨vl, by rw [HB.out]; exact h2⟩, Turn.ofBelow hb⟩
  | true =>
    have H1 : Hid (hasK S f i = true) := h1
    by_cases hT : T.length = 16
    · have HB : Hid (writeL S L f i T = L ++ [⟨f, i, T⟩]) := writeL_ok h1 hT
      have HE : Hid (writeE S f i T = 0) := writeE_ok h1 hT
      rw [hT] at hsz
      clear h1
      go_enter Try.func14, Try.ntmps14
      go_wp2_with fail
      refine (rhas B r S L vs vl f i _ (h.alloc _)).mono ?_
      rintro e w1 ⟨rfl, hb1⟩
      rw [H1.out]
      have hb := (below_alloc w (.cells #[.int .i64 f, .int .i64 i] 25)).trans (hb1.mono (by simp))
      have h2 := (h.alloc (.cells #[.int .i64 f, .int .i64 i] 25)).below hb1
      have hkr : RowAt w1 w.heap.size 25 [.int .i64 f, .int .i64 i] := (RowAt.new w #[.int .i64 f, .int .i64 i] 25).below hb1 (by simp)
      have hk0 : w1.cell? ⟨w.heap.size, 0, none⟩ = some (.int .i64 f) := by rw [hkr.cell]; rfl
      have hk1 : w1.cell? ⟨w.heap.size, 1, none⟩ = some (.int .i64 i) := by rw [hkr.cell]; rfl
      have hc1 := h2.c1
      have hc1' : (w1.alloc (.cells #[.int .i64 f, .int .i64 i, .string t] 53)).cell? ⟨r, 1, none⟩ = some vl := (h2.alloc _).c1
      have hB1 : B ≤ w1.heap.size := Nat.le_trans hB hb.size
      have HNEW : Hid (∀ j u, ([.int .i64 f, .int .i64 i, .string t] : List Value)[j]? = some u → (w1.alloc (.cells #[.int .i64 f, .int .i64 i, .string t] 53)).drew.cell? ((⟨w1.heap.size, 0, none⟩ : Addr).add j) = some u) := by
        intro j u hu
        have hnew := (RowAt.new w1 #[.int .i64 f, .int .i64 i, .string t] 53).cell j
        rw [Addr.add_mid, Nat.zero_add]
        exact hnew.trans hu
      have HOWN : Hid (∀ o, (w1.alloc o).drew.ownsRow B 53 3 vl L.length (flat L)) := fun o => ((h2.alloc o).drewN 1).l
      have HEND : Hid (∀ a' c' w', w'.ownsRow B 53 3 (.slice a' (L.length + 1) c') (L.length + 1) (flat L ++ [.int .i64 f, .int .i64 i, .string t]) → (w1.alloc (.cells #[.int .i64 f, .int .i64 i, .string t] 53)).drew.grownBy w' vl.ownBlock →
          w'.cell? ⟨r, 1, none⟩ = some vl ∧ w'.frozen? ⟨r, 1, none⟩ = false ∧ RefIs (w'.setCell ⟨r, 1, none⟩ (.slice a' (L.length + 1) c')) B r S (L ++ [⟨f, i, T⟩]) vs (.slice a' (L.length + 1) c') ∧ Turn (fun k => B ≤ k) w (w'.setCell ⟨r, 1, none⟩ (.slice a' (L.length + 1) c'))) := by
        intro a' c' w' ho hg
        rw [HT.out] at ho hg
        obtain ⟨g1, g2, g3, g4⟩ := RefIs.newL (e := ⟨f, i, T⟩) h2 (below_drawn (below_alloc _ _) 1) ho hg
        exact ⟨g1, g2, g3, (Turn.ofBelow hb).trans g4⟩
      clear hb h2 hkr h
      go_wp2
      go_region_law (refine step_append_own rfl (.tmp 18) (.tmp 22) 32 rfl B 53 _ 3 32 Try.underlying32 info53 rfl (by decide) vl L.length (flat L) rfl (HOWN.out _) ⟨w1.heap.size, 0, none⟩ 1 1 [.int .i64 f, .int .i64 i, .string t] rfl rfl HNEW.out (by simp [Value.oneCell']) (by unfold maxLen; omega) (by omega) (by simp; omega) ?_; intro a' c' w' ho hg; obtain ⟨g1, g2, g3, g4⟩ := HEND.out a' c' w' ho hg; clear ho hg)
      all_goals
        go_wp2
        go_ret
        exact ⟨by rw [HE.out]; rfl, ⟨_, by rw [HB.out]; exact g3⟩, g4⟩
    · have HB : Hid (writeL S L f i T = L) := writeL_no2 hT
      have HE : Hid (writeE S f i T = 1) := writeE_no2 h1 hT
      clear h1
      go_enter Try.func14, Try.ntmps14
      go_wp2_with fail
      refine (rhas B r S L vs vl f i _ (h.alloc _)).mono ?_
      rintro e w1 ⟨rfl, hb1⟩
      rw [H1.out]
      have hb := (below_alloc w (.cells #[.int .i64 f, .int .i64 i] 25)).trans (hb1.mono (by simp))
      have h2 := (h.alloc (.cells #[.int .i64 f, .int .i64 i] 25)).below hb1
      clear hb1
      go_wp2_with fail
      go_ret
      exact ⟨by rw [HE.out]; rfl, ⟨vl, by rw [HB.out]; exact h2⟩, Turn.ofBelow hb⟩
end Go.Proofs.Ytmemciebpnamkaa
