/-
  A slice of regions that the call itself lays by append.
-/
import Derived.Test.YtagobeoabkbhaaaP8
import Derived.Laws.OwnMore
import Derived.Deep.Upon
namespace Go.Proofs.Ytagobeoabkbhaaa
open Go.RowKit

def flat (L : List Rg) : List Value := L.flatMap rc
theorem flat_len (L : List Rg) : (flat L).length = L.length * 6 := by
  unfold flat
  induction L with
  | nil => rfl
  | cons e L ih => rw [List.flatMap_cons, List.length_append, ih, List.length_cons]; simp [rc]; omega
theorem flat_append (A B : List Rg) : flat (A ++ B) = flat A ++ flat B := by simp [flat]
theorem flat_at (L : List Rg) (j i : Nat) (hj : j < L.length) (hi : i < 6) : (flat L)[j * 6 + i]? = (rc L[j])[i]? := by
  induction L generalizing j with
  | nil => simp at hj
  | cons e L ih =>
    have hl : (rc e).length = 6 := rfl
    cases j with
    | zero =>
      show (rc e ++ flat L)[0 * 6 + i]? = _
      rw [Nat.zero_mul, Nat.zero_add, List.getElem?_append_left (by omega)]
      rfl
    | succ j =>
      show (rc e ++ flat L)[(j + 1) * 6 + i]? = _
      rw [List.getElem?_append_right (by omega), hl]
      have : (j + 1) * 6 + i - 6 = j * 6 + i := by omega
      rw [this, ih j (by simpa using hj)]
      simp
theorem rc_one (x : Rg) : ∀ u ∈ rc x, u.oneCell' = true := by
  intro u hu
  simp only [rc, List.mem_cons, List.not_mem_nil, or_false] at hu
  rcases hu with rfl | rfl | rfl | rfl | rfl | rfl <;> rfl
theorem flat_one (L : List Rg) : ∀ u ∈ flat L, u.oneCell' = true := by
  intro u hu
  obtain ⟨x, _, h⟩ := List.mem_flatMap.1 hu
  exact rc_one x u h

/-- A slice of regions that has room in block o alone (none: it has no room), from block B on. -/
def OwnL (w : World) (B : Nat) (o : Option Nat) (a : Option Addr) (cap : Nat) (L : List Rg) : Prop := match o with
  | none => cap = 0 ∧ L = []
  | some g => B ≤ g ∧ a = some ⟨g, 0, none⟩ ∧ L.length ≤ cap ∧ cap ≤ maxLen ∧ ∃ cur, w.heap[g]? = some (.cells cur 25 (0, 0)) ∧ cur.size = cap * 6 ∧ cur.toList.take (L.length * 6) = flat L
theorem OwnL.nil (w : World) (B : Nat) (a : Option Addr) : OwnL w B none a 0 [] := ⟨rfl, rfl⟩
theorem OwnL.lo {w : World} {B : Nat} {o : Option Nat} {a : Option Addr} {cap : Nat} {L : List Rg} (h : OwnL w B o a cap L) : ∀ k, o = some k → B ≤ k ∧ k < w.heap.size := by
  rintro k rfl
  obtain ⟨h1, -, -, -, cur, h2, -⟩ := h
  exact ⟨h1, lt_of_block h2⟩
theorem OwnL.turn {w w' : World} {B : Nat} {o : Option Nat} {a : Option Addr} {cap : Nat} {L : List Rg} (h : OwnL w B o a cap L) (hb : ∀ k, B ≤ k → k < w.heap.size → w'.heap[k]? = w.heap[k]?) : OwnL w' B o a cap L := by
  cases o with
  | none => exact h
  | some g =>
    obtain ⟨h1, h2, h3, h4, cur, h5, h6⟩ := h
    exact ⟨h1, h2, h3, h4, cur, (hb g h1 (lt_of_block h5)).trans h5, h6⟩
theorem OwnL.later {w w' : World} {B : Nat} {o : Option Nat} {a : Option Addr} {cap : Nat} {L : List Rg} (h : OwnL w B o a cap L) (hb : Below w.heap.size w w') : OwnL w' B o a cap L := h.turn fun k _ hk => hb.block k hk
/-- As a list in memory. -/
theorem OwnL.regs {w : World} {B : Nat} {o : Option Nat} {a : Option Addr} {cap : Nat} {L : List Rg} (h : OwnL w B o a cap L) : Regs w a cap L := by
  cases o with
  | none =>
    obtain ⟨rfl, rfl⟩ := h
    exact ⟨Nat.le_refl _, fun _ => rfl, fun j hj => by simp at hj⟩
  | some g =>
    obtain ⟨h1, rfl, h3, h4, cur, h5, h6, h7⟩ := h
    refine ⟨h3, fun h => (by cases h), fun j hj => ⟨g, 0, rfl, fun i v hv => ?_⟩⟩
    have hi : i < 6 := by
      have := (List.getElem?_eq_some_iff.1 hv).1
      simpa [rc] using this
    have e := flat_at L j i hj hi
    rw [hv, ← h7, List.getElem?_take_of_lt (by omega)] at e
    rw [cell_of_row w g _ _ 25 _ h5]
    simpa using e

theorem info25 : (Try.prog.info? 25).map (fun i => (i.zero, i.size, i.bytes)) = some (some (.agg #[.int .i64 0, .int .i64 0, .int .i64 0, .int .i64 0, .int .i64 0, .bool false]), 6, 48) := by kernel_rfl

theorem regs_cells {w : World} {b off cap : Nat} {L : List Rg} (h : Regs w (some ⟨b, off, none⟩) cap L) : ∀ j u, (flat L)[j]? = some u → w.cell? ((⟨b, off, none⟩ : Addr).add j) = some u := by
  intro j u hu
  have hj : j < L.length * 6 := by
    have := (List.getElem?_eq_some_iff.1 hu).1
    rwa [flat_len] at this
  have h1 : j / 6 < L.length := by omega
  obtain ⟨b', off', e', hc⟩ := h.at' (j / 6) h1
  have e'' := Option.some.inj e'
  injection e'' with e1 e2
  subst e1
  subst e2
  have e := flat_at L (j / 6) (j % 6) h1 (Nat.mod_lt _ (by decide))
  have e2 : j / 6 * 6 + j % 6 = j := by omega
  rw [e2, hu] at e
  have := hc (j % 6) u e.symm
  rw [WideShapes.add_plain]
  have e3 : off + j / 6 * 6 + j % 6 = off + j := by omega
  rwa [e3] at this

/-- More regions appended. -/
theorem run_append_regs (w : World) (B : Nat) (o : Option Nat) (a : Option Addr) (cap : Nat) (L : List Rg) (hown : OwnL w B o a cap L) (a2 : Option Addr) (c2 : Nat) (M : List Rg) (hM : Regs w a2 c2 M) (ty : TypeId)
    (hn : L.length + M.length ≤ 1000000) (hB : B ≤ w.heap.size) :
    ∃ o' a' c' w', (Builtin.append_ #[22, 22] ty #[.slice a L.length cap, .slice a2 M.length c2]).run Try.prog w = .ok (.slice a' (L.length + M.length) c') w' ∧ OwnL w' B o' a' c' (L ++ M) ∧ w.grownBy w' o ∧ (o' = o ∨ ∃ g, o' = some g ∧ w.heap.size ≤ g) := by
  obtain ⟨i, hi, hz0, hz1, hz2⟩ := info_parts info25
  have hlen : (flat L ++ flat M).length = (L.length + M.length) * 6 := by rw [List.length_append, flat_len, flat_len]; omega
  by_cases h0 : M = []
  · subst h0
    refine ⟨o, a, cap, w, ?_, by simpa using hown, ⟨rfl, rfl, rfl, Nat.le_refl _, fun _ _ _ => rfl⟩, Or.inl rfl⟩
    have hsrc : Src Try.prog i.size 22 (.slice a2 0 c2) 0 [] w := by
      cases a2 with
      | none =>
        exact Src.ofNil w Try.underlying22 c2
      | some ad => exact Src.ofSlice w Try.underlying22 ad 0 c2 [] (by simp) (fun j u h => by simp at h) (fun u h => by cases h)
    have := run_append_nothing (P := Try.prog) w 22 22 ty 25 i Try.underlying22 hi a L.length cap hown.regs.le (.slice a2 0 c2) hsrc
    simpa using this
  · have hm : 0 < M.length := List.length_pos_iff.2 h0
    obtain ⟨b, off, rfl, -⟩ := hM.at' 0 hm
    have hnews := regs_cells hM
    have grown : ∀ (old : Nat), old < L.length + M.length →
        OwnL (w.drew.alloc (.cells ((flat L).toArray ++ (flat M).toArray ++ Builtin.zeroCells (Value.cells (.agg #[.int .i64 0, .int .i64 0, .int .i64 0, .int .i64 0, .int .i64 0, .bool false])) (grownCap w (L.length + M.length) old 25 - (L.length + M.length))) 25)) B (some w.heap.size) (some ⟨w.heap.size, 0, none⟩) (grownCap w (L.length + M.length) old 25) (L ++ M) ∧
        w.grownBy (w.drew.alloc (.cells ((flat L).toArray ++ (flat M).toArray ++ Builtin.zeroCells (Value.cells (.agg #[.int .i64 0, .int .i64 0, .int .i64 0, .int .i64 0, .int .i64 0, .bool false])) (grownCap w (L.length + M.length) old 25 - (L.length + M.length))) 25)) o := by
      intro old ho
      have hge := grownCap_ge w (L.length + M.length) old 25
      have hcm : grownCap w (L.length + M.length) old 25 ≤ maxLen := grownCap_le_maxLen w (L.length + M.length) old 25 (by unfold maxLen; omega)
      have hzz : (Value.cells (.agg #[.int .i64 0, .int .i64 0, .int .i64 0, .int .i64 0, .int .i64 0, .bool false])).size = 6 := rfl
      refine ⟨⟨hB, rfl, by simpa using hge, hcm, _, heap_alloc_new w.drew _, ?_, ?_⟩, ⟨rfl, rfl, rfl, by simp, fun k hk _ => Below.heap_alloc w.drew _ k hk⟩⟩
      · simp only [Array.size_append, List.size_toArray, size_zeroCells, hzz, flat_len, ← Nat.add_mul]
        congr 1
        omega
      · simp only [Array.toList_append, List.append_assoc]
        rw [← List.append_assoc, flat_append, List.length_append, ← hlen]
        exact List.take_left
    cases o with
    | none =>
      obtain ⟨rfl, rfl⟩ := hown
      have g := grown 0 (by simpa using hm)
      simp only [flat, List.flatMap_nil, List.length_nil, Nat.zero_add, List.nil_append, Array.empty_append] at g ⊢
      cases a with
      | none =>
        have hr := run_append_nil (P := Try.prog) w 22 ty 25 i _ Try.underlying22 hi hz0 ⟨b, off, none⟩ M.length c2 (flat M) (by rw [hz1, flat_len]) hnews hm (by omega) (by rw [hz2]; omega)
        exact ⟨_, _, _, _, hr, g.1, g.2, Or.inr ⟨_, rfl, Nat.le_refl _⟩⟩
      | some ad =>
        have hr := run_append_grow (P := Try.prog) w 22 ty 25 i _ Try.underlying22 hi hz0 ad 0 0 [] (by simp) (fun j v h => by simp at h) ⟨b, off, none⟩ M.length c2 (flat M) (by rw [hz1, flat_len]) hnews (by omega) (by omega) (growslice_fits (by omega) (by rw [hz2]; omega))
        simp only [Nat.zero_add, Array.empty_append] at hr
        exact ⟨_, _, _, _, hr, g.1, g.2, Or.inr ⟨_, rfl, Nat.le_refl _⟩⟩
    | some g =>
      have hreg := hown.regs
      obtain ⟨h1, rfl, h3, h4, cur, h5, h6, h7⟩ := hown
      by_cases hroom : L.length + M.length ≤ cap
      · have hfit : L.length * i.size + (flat M).length ≤ cur.size := by rw [hz1, flat_len, h6]; omega
        have hr := run_append_room (P := Try.prog) w 22 ty 25 i Try.underlying22 hi g L.length cap cur h5 ⟨b, off, none⟩ M.length c2 (flat M) (by rw [hz1, flat_len]) hnews (flat_one M) hroom hfit
        rw [hz1] at hr hfit
        refine ⟨some g, _, _, _, hr, ⟨h1, rfl, by simpa using hroom, h4, _, setRow_heap w g cur _ 25 _ h5, ?_, ?_⟩, ⟨rfl, rfl, rfl, by simp, fun k _ hk => setRow_other w g k _ (fun e => hk (by rw [e]))⟩, Or.inl rfl⟩
        · simp only [List.size_toArray, List.length_append, List.length_take, List.length_drop, Array.length_toList, flat_len]
          rw [flat_len] at hfit
          omega
        · rw [h7, flat_append, List.length_append, ← hlen]
          exact List.take_left
      · have hr := run_append_grow (P := Try.prog) w 22 ty 25 i _ Try.underlying22 hi hz0 ⟨g, 0, none⟩ L.length cap (flat L) (by rw [hz1, flat_len]) (regs_cells hreg) ⟨b, off, none⟩ M.length c2 (flat M) (by rw [hz1, flat_len]) hnews (by omega) (by omega) (growslice_fits (by omega) (by rw [hz2]; omega))
        have gg := grown cap (by omega)
        exact ⟨_, _, _, _, hr, gg.1, gg.2, Or.inr ⟨_, rfl, Nat.le_refl _⟩⟩

/-- The same as an operation of a walk. -/
theorem wpList_append_regs {w : World} {ops : Array Oper} {rest : List Oper} {op : Oper} {a : Act} {Q : Exit → Act → World → Prop} (hgd : op.guard = none) (s x : Operand)
    (ho : op.op = .call { callee := .builtin .append, args := #[s, x], argTypes := #[22, 22] }) (B : Nat) (o : Option Nat) (ad : Option Addr) (cap : Nat) (L : List Rg) (a2 : Option Addr) (c2 m : Nat) (M : List Rg)
    (hs : a.eval s = .slice ad L.length cap) (hown : OwnL w B o ad cap L) (hx : a.eval x = .slice a2 m c2) (hm : m = M.length) (hM : Regs w a2 c2 M) (hn : L.length + M.length ≤ 1000000) (hB : B ≤ w.heap.size)
    (hK : ∀ o' a' c' N w', Hid (N = L ++ M) → OwnL w' B o' a' c' N → w.grownBy w' o → (o' = o ∨ ∃ g, o' = some g ∧ w.heap.size ≤ g) → wpList Try.prog ops Q rest (a.put op.dst (.slice a' N.length c')) w') :
    wpList Try.prog ops Q (op :: rest) a w := by
  subst hm
  obtain ⟨o', a', c', w', hr, h1, h2, h3⟩ := run_append_regs w B o ad cap L hown a2 c2 M hM op.type hn hB
  refine wpList_plain hgd fun K hK' => ?_
  have := hK o' a' c' (L ++ M) w' rfl h1 h2 h3
  rw [List.length_append] at this
  unfold Oper.wp execOp
  simp only [ho, resolve, invoke, builtin, Sem.run_bind, Sem.run_pure, Result.andThen_ok, List.map_toArray, List.map_cons, List.map_nil, hs, hx, hr]
  exact hK' _ _ this

/-- What an append leaves as it was. -/
theorem grown_row {w w' : World} {o : Option Nat} (hg : w.grownBy w' o) {b : Nat} {t : TypeId} {vs : List Value} (h : RowAt w b t vs) (hne : o ≠ some b) : RowAt w' b t vs := by
  unfold RowAt
  rw [hg.block b h.lt (fun e => hne e.symm)]
  exact h
theorem grown_below {w0 w w' : World} {o : Option Nat} (hg : w.grownBy w' o) (hb : Below w0.heap.size w0 w) (ho : ∀ k, o = some k → w0.heap.size ≤ k) : Below w0.heap.size w0 w' :=
  ⟨hg.os.trans hb.os, hg.tape.trans hb.tape, hg.output.trans hb.output, Nat.le_trans hb.size hg.size, fun k hk => (hg.block k (Nat.lt_of_lt_of_le hk hb.size) (fun e => by have := ho k e.symm; omega)).trans (hb.block k hk)⟩
theorem own_apart {w : World} {o o' : Option Nat} {b : Nat} (h : o' = o ∨ ∃ g, o' = some g ∧ w.heap.size ≤ g) (hb : b < w.heap.size) (hne : o ≠ some b) : o' ≠ some b := by
  rcases h with rfl | ⟨g, rfl, hg⟩
  · exact hne
  · intro e
    injection e with e
    omega
/-- One region just laid, as a slice of one. -/
theorem one_regs {w : World} {q : Nat} {y : Rg} (h : RowAt w q 25 (rc y)) : Regs w (some ⟨q, 0, none⟩) 1 [y] := by
  refine ⟨Nat.le_refl _, fun h => (by cases h), fun j hj => ⟨q, 0, rfl, fun i v hv => ?_⟩⟩
  have hj0 : j = 0 := by simpa using hj
  subst hj0
  rw [h.cell]
  simpa using hv
end Go.Proofs.Ytagobeoabkbhaaa
