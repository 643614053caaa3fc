/-
  The program's lists as they lie in memory: a map from ids to structs of two integers; what its look-up, store and delete leave.
-/
import Derived.Test.YtfmgmelgfnppkaaMath
import Derived.Test.YtfmgmelgfnppkaaStore
import Derived.Test.YtfmgmelgfnppkaaUp
import Derived.Test.YtfmgmelgfnppkaaRows
import Derived.Maps.OwnSet
import Derived.Laws.OwnMore
namespace Go.Proofs.Ytfmgmelgfnppkaa
open Go.RowKit

theorem keyed : Maps.Keyed Try.prog 3 := Maps.int_keyed Try.underlying3
/-- A place: a group, an age. -/
def sv (g a : Int) : Value := .agg #[.int .i64 g, .int .i64 a]
/-- How an element is read here: as itself. -/
def asIs (v : Value) : Option (DataW Value × List MemPlace) := some (.held v, [])
theorem keyOf_i {i : Int} (h : (Lit.int .i64 i).wf = true) : keyOf Try.prog 3 (.int .i64 i) = some (.int .i64 i) := Maps.keyOf_int_mk Try.underlying3 h
theorem isKey {i : Int} (h : (Lit.int .i64 i).wf = true) : WideAt.IsKeyLit (.int .i64 i) := keyed.key (keyOf_i h)
theorem wf_ok {i : Int} (h : okI i = true) : (Lit.int .i64 i).wf = true := by
  rw [okI_iff] at h
  exact WalkArith.wf_i64 (by omega)
theorem wf_rng {x : En} (h : Rng x) : (Lit.int .i64 x.i).wf = true := WalkArith.wf_i64 (by have := h.1; omega)
theorem key_ne {i j : Int} (h : i ≠ j) : (Lit.int .i64 i) ≠ .int .i64 j := by
  intro e
  injection e with _ e
  exact h e

/-- What the map reads as. -/
def Rd (D : DataW Value) (L : List En) : Prop := ∀ i, (lk L i = none → Maps.has D (.int .i64 i) = false) ∧ ∀ x, lk L i = some x → Maps.has D (.int .i64 i) = true ∧ ∀ z, D.atKey (.int .i64 i) z = .held (sv x.g x.a)
/-- Block m is the map of what L has. -/
def MapIs (w : World) (m : Nat) (L : List En) : Prop := ∃ D : DataW Value, w.ownsMap Try.prog 3 asIs m L.length D ∧ Maps.size D = L.length ∧ Rd D L

theorem own_fit {P : Program} {k : TypeId} {R : Value → Option (DataW Value × List MemPlace)} {w : World} {b n n' : Nat} {D : DataW Value} (h : w.ownsMap P k R b n D) (hs : Maps.size D ≤ n') : w.ownsMap P k R b n' D := by
  obtain ⟨es, clock, hb, F, hs', rfl⟩ := h
  have e1 : Maps.size (DataW.map ((es.toList.map (Go.WideElems.rg P k R)).foldr DataW.insert [])) = es.size := by simp [Maps.size, length_sorted]
  exact ⟨es, clock, hb, F, by omega, rfl⟩
theorem ownsMap_block {P : Program} {k : TypeId} {R : Value → Option (DataW Value × List MemPlace)} {w w' : World} {m n : Nat} {D : DataW Value} (h : w.ownsMap P k R m n D) (hb : w'.heap[m]? = w.heap[m]?) : w'.ownsMap P k R m n D := by
  obtain ⟨es, clock, h1, h2⟩ := h
  exact ⟨es, clock, hb.trans h1, h2⟩
theorem MapIs.block {w w' : World} {m : Nat} {L : List En} (h : MapIs w m L) (hb : w'.heap[m]? = w.heap[m]?) : MapIs w' m L := by
  obtain ⟨D, h1, h2⟩ := h
  exact ⟨D, ownsMap_block h1 hb, h2⟩
theorem MapIs.lt {w : World} {m : Nat} {L : List En} (h : MapIs w m L) : m < w.heap.size := by
  obtain ⟨D, h1, h2⟩ := h
  exact h1.lt
theorem MapIs.below {w w' : World} {m : Nat} {L : List En} (h : MapIs w m L) (hb : Below w.heap.size w w') : MapIs w' m L := h.block (hb.block m h.lt)
theorem MapIs.new (w : World) : MapIs (w.alloc (.map #[] 0)) w.heap.size [] :=
  ⟨.map [], World.ownsMap_made _ _ _ _, rfl, fun _ => ⟨fun _ => rfl, fun _ h => by simp [lk_nil] at h⟩⟩
theorem own_not_row {P : Program} {k : TypeId} {R : Value → Option (DataW Value × List MemPlace)} {w : World} {m n b : Nat} {D : DataW Value} {t : TypeId} {vs : List Value} (h : w.ownsMap P k R m n D) (hb : RowAt w b t vs) : b ≠ m := by
  rintro rfl
  obtain ⟨es, clock, h1, _⟩ := h
  unfold RowAt at hb
  rw [hb] at h1
  cases h1
theorem MapIs.not_row {w : World} {m b : Nat} {L : List En} {t : TypeId} {vs : List Value} (h : MapIs w m L) (hb : RowAt w b t vs) : b ≠ m := by
  obtain ⟨D, h1, _⟩ := h
  exact own_not_row h1 hb

/-- What a look-up answers. -/
def lkV (L : List En) (i : Int) : Value := match lk L i with | none => sv 0 0 | some x => sv x.g x.a
theorem zero56 (w : World) : (zeroValue 56).run Try.prog w = .ok (sv 0 0) w := by kernel_rfl
theorem MapIs.look {w : World} {m : Nat} {L : List En} (h : MapIs w m L) {i : Int} (hi : (Lit.int .i64 i).wf = true) :
    (Instr.lookup 50 (.map (some m)) (.int .i64 i) true).run Try.prog w = .ok (.tuple #[lkV L i, .bool (lk L i).isSome]) w := by
  obtain ⟨D, h1, -, h2⟩ := h
  obtain ⟨v, ps, hrun, hv⟩ := h1.look_ok keyed Try.underlying50 (zero56 w) (zd := .held (sv 0 0)) (zp := []) rfl (keyOf_i hi)
  obtain ⟨g1, g2⟩ := h2 i
  rw [hrun]
  simp only [asIs, Option.some.injEq, Prod.mk.injEq] at hv
  cases hl : lk L i with
  | none =>
    have e1 := g1 hl
    have e2 := hv.1
    rw [Maps.atKey_of_not_has e1] at e2
    injection e2 with e2
    rw [e1, e2]
    simp [lkV, hl]
  | some x =>
    obtain ⟨e1, e3⟩ := g2 x hl
    have e2 := hv.1
    rw [e3] at e2
    injection e2 with e2
    rw [e1, e2]
    simp [lkV, hl]

/-- Stored at i, whether there was one or not. -/
theorem rd_put {D : DataW Value} {L L' : List En} {i g a : Int} (hD : Maps.IsMap D) (hi : (Lit.int .i64 i).wf = true) (h : Rd D L) (hlk : ∀ j, lk L' j = if j = i then some ⟨i, g, a⟩ else lk L j) : Rd (D.put (.int .i64 i) (.held (sv g a))) L' := by
  intro j
  rw [hlk j]
  by_cases hj : j = i
  · subst hj
    rw [if_pos rfl]
    refine ⟨(fun h => by cases h), fun x hx => ?_⟩
    obtain rfl := Option.some.inj hx
    exact ⟨Maps.has_put_same hD (isKey hi) _, fun z => Maps.atKey_put_same hD (isKey hi) _ _⟩
  · rw [if_neg hj, Maps.has_put_other (key_ne hj)]
    obtain ⟨g1, g2⟩ := h j
    refine ⟨g1, fun x hx => ⟨(g2 x hx).1, fun z => ?_⟩⟩
    rw [Maps.atKey_put_other (key_ne hj)]
    exact (g2 x hx).2 z
theorem size_of_put {D : DataW Value} {L L' : List En} {i : Int} {d : DataW Value} (hD : Maps.Tidy D) (h : Rd D L) (hs : Maps.size D = L.length) (hlen : L'.length = if (lk L i).isSome then L.length else L.length + 1) : Maps.size (D.put (.int .i64 i) d) = L'.length := by
  rw [Maps.size_put hD, hlen, hs]
  obtain ⟨g1, g2⟩ := h i
  cases hl : lk L i with
  | none => rw [g1 hl]; simp
  | some x => rw [(g2 x hl).1]; simp
theorem MapIs.store {w : World} {m : Nat} {L : List En} (h : MapIs w m L) {i : Int} (hi : (Lit.int .i64 i).wf = true) (hL : L.length < 1000000) (g a : Int) {L' : List En}
    (hlen : L'.length = if (lk L i).isSome then L.length else L.length + 1) (hlk : ∀ j, lk L' j = if j = i then some ⟨i, g, a⟩ else lk L j) :
    ∃ w', (Instr.mapUpdate 50 (.map (some m)) (.int .i64 i) (sv g a)).run Try.prog w = .ok () w' ∧ MapIs w' m L' ∧ But m w w' := by
  obtain ⟨D, h1, h0, h2⟩ := h
  obtain ⟨w', hrun, r1, r2⟩ := h1.store keyed Try.underlying50 (by unfold maxLen; omega) (keyOf_i hi) (show asIs (sv g a) = some (.held (sv g a), []) from rfl)
  have hsz := size_of_put (d := .held (sv g a)) (h1.tidy keyed) h2 h0 hlen
  refine ⟨w', hrun, ⟨_, own_fit r1 (Nat.le_of_eq hsz), hsz, rd_put h1.isMap hi h2 hlk⟩, ?_⟩
  clear hrun r1
  obtain ⟨es, clock, es', clock', hb, rfl⟩ := r2
  exact ⟨rfl, rfl, rfl, by simp [ChangeMaps.setBlock], fun k hk => ChangeMaps.heap_setBlock_other hb _ hk⟩
theorem drop_len_iff (L : List En) (hs : Srt L) (i : Int) : (dropL L i).length + (if (lk L i).isSome then 1 else 0) = L.length := by
  cases hl : lk L i with
  | none => rw [dropL_none hl]; simp
  | some x =>
    have := dropL_count hs hl (fun _ => true)
    simpa [List.countP_true] using this
theorem MapIs.drop {w : World} {m : Nat} {L : List En} (h : MapIs w m L) (hs : Srt L) {i : Int} (hi : (Lit.int .i64 i).wf = true) (ty : TypeId) :
    ∃ w', (Builtin.delete_ #[50, 3] ty #[.map (some m), .int .i64 i]).run Try.prog w = .ok (.tuple #[]) w' ∧ MapIs w' m (dropL L i) ∧ But m w w' := by
  obtain ⟨D, h1, h0, h2⟩ := h
  obtain ⟨w', hrun, r1, r2⟩ := h1.drop keyed Try.underlying50 (keyOf_i hi) ty
  have hsz : Maps.size (D.del (.int .i64 i)) = (dropL L i).length := by
    have e1 := Maps.size_del (k := .int .i64 i) (h1.tidy keyed)
    have e2 := drop_len_iff L hs i
    obtain ⟨g1, g2⟩ := h2 i
    cases hl : lk L i with
    | none => rw [g1 hl] at e1; rw [hl] at e2; simp at e1 e2; omega
    | some x => rw [(g2 x hl).1] at e1; rw [hl] at e2; simp at e1 e2; omega
  refine ⟨w', hrun, ⟨_, own_fit r1 (Nat.le_of_eq hsz), hsz, fun j => ?_⟩, ?_⟩
  · rw [dropL_lk]
    by_cases hj : j = i
    · subst hj
      rw [if_pos rfl]
      exact ⟨fun _ => Maps.has_del_same, fun x hx => by cases hx⟩
    · rw [if_neg hj, Maps.has_del_other (key_ne hj)]
      obtain ⟨g1, g2⟩ := h2 j
      refine ⟨g1, fun x hx => ⟨(g2 x hx).1, fun z => ?_⟩⟩
      rw [Maps.atKey_del_other (key_ne hj)]
      exact (g2 x hx).2 z
  · clear hrun r1
    obtain ⟨es, clock, es', clock', hb, rfl⟩ := r2
    exact ⟨rfl, rfl, rfl, by simp [ChangeMaps.setBlock], fun k hk => ChangeMaps.heap_setBlock_other hb _ hk⟩
end Go.Proofs.Ytfmgmelgfnppkaa
