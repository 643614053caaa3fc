/-
  A store of files told: sizes, the map of pages that were written, how many were; contracts of Count, Size, Writes, has.
-/
import Derived.Test.YtmemciebpnamkaaP1
import Derived.Maps.OwnSet
import Derived.DeepKeys4
import Derived.Deep.RegionLaw
import Derived.Deep.CutBlock
import Derived.Deep.DeepCutAuto
namespace Go.Proofs.Ytmemciebpnamkaa
open Go.RowKit

/-! ### worlds -/
/-- Only what C names may have turned, of all that was there; more may have been made. -/
structure Turn (C : Nat → Prop) (w w' : World) : Prop where
  os : w'.os = w.os
  tape : w'.tape = w.tape
  output : w'.output = w.output
  size : w.heap.size ≤ w'.heap.size
  block : ∀ k, k < w.heap.size → ¬ C k → w'.heap[k]? = w.heap[k]?
theorem Turn.refl (C : Nat → Prop) (w : World) : Turn C w w := ⟨rfl, rfl, rfl, Nat.le_refl _, fun _ _ _ => rfl⟩
theorem Turn.trans {C : Nat → Prop} {u v w : World} (h : Turn C u v) (k : Turn C v w) : Turn C u w :=
  ⟨k.os.trans h.os, k.tape.trans h.tape, k.output.trans h.output, Nat.le_trans h.size k.size, fun i hi hn => (k.block i (Nat.lt_of_lt_of_le hi h.size) hn).trans (h.block i hi hn)⟩
theorem Turn.ofBelow {C : Nat → Prop} {w w' : World} (h : Below w.heap.size w w') : Turn C w w' := ⟨h.os, h.tape, h.output, h.size, fun k hk _ => h.block k hk⟩
theorem Turn.below {C : Nat → Prop} {B : Nat} {w w' : World} (h : Turn C w w') (hC : ∀ k, C k → B ≤ k) (hs : B ≤ w.heap.size) : Below B w w' :=
  ⟨h.os, h.tape, h.output, h.size, fun k hk => h.block k (by omega) (fun c => by have := hC k c; omega)⟩
theorem Turn.drewN {C : Nat → Prop} {w w' : World} (h : Turn C w w') (n : Nat) : Turn C w (w'.drewN n) := ⟨h.os, h.tape, h.output, h.size, h.block⟩
theorem Turn.ofBut {C : Nat → Prop} {b : Nat} {w w' : World} (h : But b w w') (hb : C b) : Turn C w w' := ⟨h.os, h.tape, h.output, Nat.le_of_eq h.size.symm, fun k _ hn => h.block k (fun e => hn (e ▸ hb))⟩
theorem below_drawn {B : Nat} {w w' : World} (h : Below B w w') (n : Nat) : Below B w (w'.drewN n) := ⟨h.os, h.tape, h.output, h.size, h.block⟩
theorem RowAt.turn {C : Nat → Prop} {w w' : World} {b : Nat} {t : TypeId} {vs : List Value} (h : RowAt w b t vs) (ht : Turn C w w') (hb : ¬ C b) : RowAt w' b t vs := by
  unfold RowAt
  rw [ht.block b h.lt hb]; exact h

/-! ### what was written -/
structure Ent where
  f : Int
  i : Int
  t : List UInt8
def lookL (L : List Ent) (f i : Int) : Option (List UInt8) := (L.reverse.find? fun e => e.f == f && e.i == i).map (·.t)
theorem lookL_nil (f i : Int) : lookL [] f i = none := rfl
theorem lookL_same (L : List Ent) (f i : Int) (t : List UInt8) : lookL (L ++ [⟨f, i, t⟩]) f i = some t := by simp [lookL]
theorem lookL_other (L : List Ent) {f i g j : Int} (t : List UInt8) (h : ¬ (g = f ∧ j = i)) : lookL (L ++ [⟨g, j, t⟩]) f i = lookL L f i := by
  have : (g == f && j == i) = false := by
    cases hq : (g == f && j == i)
    · rfl
    · simp at hq; exact absurd hq h
  simp [lookL, this]

/-! ### sizes -/
def sizeK (S : List Nat) (f : Int) : Int := if 0 ≤ f ∧ f < S.length then (S.getD f.toNat 0 : Int) else 0
def hasK (S : List Nat) (f i : Int) : Bool := decide (0 ≤ i) && decide (i < sizeK S f)
theorem sizeK_nat {S : List Nat} {k : Nat} (h : k < S.length) : sizeK S k = S.getD k 0 := by simp [sizeK, h]
theorem sizeK_low {S : List Nat} {f : Int} (h : f < 0) : sizeK S f = 0 := by simp [sizeK]; omega
theorem sizeK_high {S : List Nat} {f : Int} (h : (S.length : Int) ≤ f) : sizeK S f = 0 := by
  unfold sizeK
  rw [if_neg (by omega)]
theorem hasK_true {S : List Nat} {f i : Int} (h : hasK S f i = true) : ∃ k j : Nat, f = k ∧ i = j ∧ k < S.length ∧ j < S.getD k 0 := by
  simp only [hasK, Bool.and_eq_true, decide_eq_true_eq] at h
  unfold sizeK at h
  split at h
  · rename_i hf
    exact ⟨f.toNat, i.toNat, by omega, by omega, by omega, by omega⟩
  · omega

/-! ### the map of pages -/
theorem laidOut : laidOutB Try.prog = true := by kernel_rfl
theorem row25 : 25 < Try.prog.types.size := of_decide_eq_true (by kernel_rfl)
theorem keyed : Maps.Keyed Try.prog 25 := Maps.Keyed.of_law (deep_law_laid laidOut (m := 2) (by omega) row25 (by kernel_rfl) (by kernel_rfl))
def kv (f i : Int) : Value := .agg #[.int .i64 f, .int .i64 i]
/-- How an element is read here: as itself. -/
def asIs (v : Value) : Option (DataW Value × List MemPlace) := some (.held v, [])
def pageV (T : List UInt8) : Value := .agg (bc T).toArray

theorem cells3 : Try.prog.cellsOf 3 = 1 := by kernel_rfl
theorem cells25 : Try.prog.cellsOf 25 = 2 := by kernel_rfl
theorem ktype25 : Try.prog.keyType 25 = true := by kernel_rfl
theorem keyOf_pair {P : Program} {t : TypeId} {a b : Field} (h3 : P.underlying 3 = some (.int .i64)) (ht : P.underlying t = some (.struct #[a, b])) (ha : a.type = 3) (hb : b.type = 3) (oa : a.offset = 0) (ob : b.offset = 1)
    (na : (a.name != "_") = true) (nb : (b.name != "_") = true) (c3 : P.cellsOf 3 = 1) (ct : P.cellsOf t = 2) (kt : P.keyType t = true) (hs : 0 < P.types.size) {f i : Int} (hf : (Lit.int .i64 f).wf = true) (hi : (Lit.int .i64 i).wf = true) :
    keyOf P t (kv f i) = some (.string (keyBytes [.int .i64 f, .int .i64 i])) := by
  obtain ⟨n, hn⟩ : ∃ n, P.types.size = n + 1 := ⟨P.types.size - 1, by omega⟩
  unfold keyOf kv
  rw [ht]
  simp [kt, Value.formed, ht, ct, hn, Program.keyLits, h3, Value.cells, c3, hf, hi, ha, hb, oa, ob, na, nb]
theorem keyOf_kv {f i : Int} (hf : (Lit.int .i64 f).wf = true) (hi : (Lit.int .i64 i).wf = true) : keyOf Try.prog 25 (kv f i) = some (.string (keyBytes [.int .i64 f, .int .i64 i])) :=
  keyOf_pair Try.underlying3 Try.underlying25 rfl rfl rfl rfl rfl rfl cells3 cells25 ktype25 (Nat.lt_of_le_of_lt (Nat.zero_le _) row25) hf hi

/-- Block m is the map of the pages that were written. -/
def MapIs (w : World) (m : Nat) (L : List Ent) : Prop :=
  ∃ D : DataW Value, w.ownsMap Try.prog 25 asIs m L.length D ∧
    ∀ f i kl, keyOf Try.prog 25 (kv f i) = some kl → (lookL L f i = none → Maps.has D kl = false) ∧ ∀ T, lookL L f i = some T → Maps.has D kl = true ∧ ∀ z, D.atKey kl z = .held (pageV T)
theorem wf_small {k : Nat} (h : k < 1000000) : (Lit.int .i64 k).wf = true := WalkArith.wf_i64 (by omega)
theorem kv_inj {f i g j : Int} (h : kv f i = kv g j) : f = g ∧ i = j := by simpa [kv] using h
theorem zero51 (w : World) : (zeroValue 51).run Try.prog w = .ok (pageV (List.replicate 16 0)) w := by kernel_rfl

theorem ownsMap_block {w w' : World} {m n : Nat} {D : DataW Value} (h : w.ownsMap Try.prog 25 asIs m n D) (hb : w'.heap[m]? = w.heap[m]?) : w'.ownsMap Try.prog 25 asIs m n D := by
  obtain ⟨es, clock, h1, h2⟩ := h
  exact ⟨es, clock, hb.trans h1, h2⟩
theorem MapIs.block {w w' : World} {m : Nat} {L : List Ent} (h : MapIs w m L) (hb : w'.heap[m]? = w.heap[m]?) : MapIs w' m L := by
  obtain ⟨D, h1, h2⟩ := h
  exact ⟨D, ownsMap_block h1 hb, h2⟩
theorem MapIs.lt {w : World} {m : Nat} {L : List Ent} (h : MapIs w m L) : m < w.heap.size := by
  obtain ⟨D, h1, h2⟩ := h
  exact h1.lt
theorem MapIs.new (w : World) : MapIs (w.alloc (.map #[] 0)) w.heap.size [] :=
  ⟨.map [], World.ownsMap_made _ _ _ _, fun _ _ _ _ => ⟨fun _ => rfl, fun _ h => by simp [lookL_nil] at h⟩⟩
theorem MapIs.not_row {w : World} {m b : Nat} {L : List Ent} {t : TypeId} {vs : List Value} (h : MapIs w m L) (hb : RowAt w b t vs) : b ≠ m := by
  rintro rfl
  obtain ⟨D, ⟨es, clock, h1, _⟩, _⟩ := h
  unfold RowAt at hb
  rw [hb] at h1
  cases h1

/-- What the map answers. -/
def lookV (L : List Ent) (f i : Int) : List UInt8 := (lookL L f i).getD (List.replicate 16 0)
theorem MapIs.look {w : World} {m : Nat} {L : List Ent} (h : MapIs w m L) {f i : Nat} (hf : f < 1000000) (hi : i < 1000000) :
    (Instr.lookup 47 (.map (some m)) (kv f i) true).run Try.prog w = .ok (.tuple #[pageV (lookV L f i), .bool (lookL L f i).isSome]) w := by
  obtain ⟨D, h1, h2⟩ := h
  have hkey := keyOf_kv (wf_small hf) (wf_small hi)
  obtain ⟨v, ps, hrun, hv⟩ := h1.look_ok keyed Try.underlying47 (zero51 w) (zd := .held (pageV (List.replicate 16 0))) (zp := []) rfl hkey
  obtain ⟨g1, g2⟩ := h2 f i _ hkey
  rw [hrun]
  simp only [asIs, Option.some.injEq, Prod.mk.injEq] at hv
  cases hl : lookL L f i with
  | none =>
    have e1 := g1 hl
    have e2 := hv.1
    rw [Maps.atKey_of_not_has e1] at e2
    injection e2 with e2
    rw [e1, e2]
    simp [lookV, hl]
  | some T =>
    obtain ⟨e1, e3⟩ := g2 T hl
    have e2 := hv.1
    rw [e3] at e2
    injection e2 with e2
    rw [e1, e2]
    simp [lookV, hl]
theorem MapIs.store {w : World} {m : Nat} {L : List Ent} (h : MapIs w m L) {f i : Nat} (hf : f < 1000000) (hi : i < 1000000) (hL : L.length < 1000000) (T : List UInt8) :
    ∃ w', (Instr.mapUpdate 47 (.map (some m)) (kv f i) (pageV T)).run Try.prog w = .ok () w' ∧ MapIs w' m (L ++ [⟨f, i, T⟩]) ∧ But m w w' := by
  obtain ⟨D, h1, h2⟩ := h
  have hkey := keyOf_kv (wf_small hf) (wf_small hi)
  obtain ⟨w', hrun, r1, r2⟩ := h1.store keyed Try.underlying47 (by unfold maxLen; omega) hkey (show asIs (pageV T) = some (.held (pageV T), []) from rfl)
  refine ⟨w', hrun, ⟨_, by simpa using r1, ?_⟩, ?_⟩
  · intro g j kl hkl
    by_cases he : (f : Int) = g ∧ (i : Int) = j
    · obtain ⟨rfl, rfl⟩ := he
      rw [hkey] at hkl
      obtain rfl := Option.some.inj hkl
      rw [lookL_same]
      refine ⟨(fun h => by cases h), fun T' hT => ?_⟩
      obtain rfl := Option.some.inj hT
      exact ⟨Maps.has_put_same h1.isMap (keyed.key hkey) _, fun z => Maps.atKey_put_same h1.isMap (keyed.key hkey) _ _⟩
    · have hne : kl ≠ .string (keyBytes [.int .i64 (f : Int), .int .i64 (i : Int)]) := by
        rintro rfl
        obtain ⟨h3, h4⟩ := kv_inj (keyed.inj hkl hkey)
        exact he ⟨h3.symm, h4.symm⟩
      rw [lookL_other L T he, Maps.has_put_other hne]
      obtain ⟨g1, g2⟩ := h2 g j kl hkl
      refine ⟨g1, fun T' hT => ⟨(g2 T' hT).1, fun z => ?_⟩⟩
      rw [Maps.atKey_put_other hne]
      exact (g2 T' hT).2 z
  · clear hrun r1
    obtain ⟨es, clock, es', clock', hb, rfl⟩ := r2
    refine ⟨rfl, rfl, rfl, by simp [ChangeMaps.setBlock], fun k hk => ?_⟩
    exact ChangeMaps.heap_setBlock_other hb _ hk
end Go.Proofs.Ytmemciebpnamkaa
