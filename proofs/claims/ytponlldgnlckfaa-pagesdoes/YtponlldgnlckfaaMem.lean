/-
  Memory that a call makes, told block by block: what a block holds, what a store leaves, what lies below stays. No program is named here.
-/
import Derived.WalkKit
import Derived.WalkSpells
import Derived.Deep.MidRow
import Derived.Laws.CopyOwn
import Derived.Laws.IdiomStrings
import Derived.ChangeKeysEq
import Derived.Deep.QuietTactic
import Derived.BigQuiet
namespace Go.Proofs.Ytponlldgnlckfaa
open Go.RowKit

/-- Block b of the world holds these cells, none of them frozen. -/
def RowAt (w : World) (b : Nat) (t : TypeId) (vs : List Value) : Prop := w.heap[b]? = some (.cells vs.toArray t (0, 0))

theorem RowAt.cell {w : World} {b : Nat} {t : TypeId} {vs : List Value} (h : RowAt w b t vs) (i : Nat) : w.cell? ⟨b, i, none⟩ = vs[i]? := by
  rw [cell_of_row w b i _ t _ h]; simp
theorem RowAt.frozen {w : World} {b : Nat} {t : TypeId} {vs : List Value} (h : RowAt w b t vs) (i : Nat) : w.frozen? ⟨b, i, none⟩ = false := frozen_of_row w b i _ t h
theorem RowAt.lt {w : World} {b : Nat} {t : TypeId} {vs : List Value} (h : RowAt w b t vs) : b < w.heap.size := lt_of_block h
theorem RowAt.set {w : World} {b : Nat} {t : TypeId} {vs : List Value} (h : RowAt w b t vs) (i : Nat) (v : Value) : RowAt (w.setCell ⟨b, i, none⟩ v) b t (vs.set i v) := by
  have := heap_setCell_same w b i _ t v h
  unfold RowAt
  rw [this]; simp
theorem RowAt.other {w : World} {b c : Nat} {t : TypeId} {vs : List Value} (h : RowAt w b t vs) (hne : b ≠ c) (i : Nat) (v : Value) : RowAt (w.setCell ⟨c, i, none⟩ v) b t vs := by
  unfold RowAt
  rw [heap_setCell_other w _ b v hne]; exact h
theorem RowAt.alloc {w : World} {b : Nat} {t : TypeId} {vs : List Value} (h : RowAt w b t vs) (o : Obj) : RowAt (w.alloc o) b t vs := by
  unfold RowAt
  rw [Below.heap_alloc w o b h.lt]; exact h
theorem RowAt.below {B : Nat} {w w' : World} {b : Nat} {t : TypeId} {vs : List Value} (h : RowAt w b t vs) (hb : Below B w w') (hlt : b < B) : RowAt w' b t vs := by
  unfold RowAt
  rw [hb.block b hlt]; exact h
theorem RowAt.drewN {w : World} {b : Nat} {t : TypeId} {vs : List Value} (h : RowAt w b t vs) (n : Nat) : RowAt (w.drewN n) b t vs := h

/-- A block that has just been made. -/
theorem RowAt.new (w : World) (cs : Array Value) (t : TypeId) : RowAt (w.alloc (.cells cs t)) w.heap.size t cs.toList := by
  unfold RowAt
  rw [heap_alloc_new]
theorem below_alloc (w : World) (o : Obj) : Below w.heap.size w (w.alloc o) := (Below.refl _ _).alloc (Nat.le_refl _) o

/-- Of one block alone nothing is said; all others are as they were. -/
structure But (b : Nat) (w w' : World) : Prop where
  os : w'.os = w.os
  tape : w'.tape = w.tape
  output : w'.output = w.output
  size : w'.heap.size = w.heap.size
  block : ∀ k, k ≠ b → w'.heap[k]? = w.heap[k]?
theorem But.refl (b : Nat) (w : World) : But b w w := ⟨rfl, rfl, rfl, rfl, fun _ _ => rfl⟩
theorem But.setCell (b i : Nat) (w : World) (v : Value) : But b w (w.setCell ⟨b, i, none⟩ v) := ⟨rfl, rfl, rfl, by simp, fun k hk => heap_setCell_other w _ k v hk⟩
theorem But.drewN {b : Nat} {w w' : World} (h : But b w w') (n : Nat) : But b w (w'.drewN n) := ⟨h.os, h.tape, h.output, h.size, h.block⟩
theorem But.trans {b : Nat} {u v w : World} (h : But b u v) (k : But b v w) : But b u w :=
  ⟨k.os.trans h.os, k.tape.trans h.tape, k.output.trans h.output, k.size.trans h.size, fun i hi => (k.block i hi).trans (h.block i hi)⟩
theorem But.below {b B : Nat} {w w' : World} (h : But b w w') (hB : B ≤ b) : Below B w w' :=
  ⟨h.os, h.tape, h.output, by rw [h.size]; exact Nat.le_refl _, fun k hk => h.block k (by omega)⟩
theorem RowAt.but {w w' : World} {b c : Nat} {t : TypeId} {vs : List Value} (h : RowAt w b t vs) (hb : But c w w') (hne : b ≠ c) : RowAt w' b t vs := by
  unfold RowAt
  rw [hb.block b hne]; exact h

/-- 'make([]T, n)' of one-cell elements: a new block of n zero values. -/
theorem wpList_make_row {P : Program} (w : World) {ops : Array Oper} {rest : List Oper} {o : Oper} {a : Act} {Q : Exit → Act → World → Prop}
    (hg : o.guard = none) (l c : Operand) (t : TypeId) (hop : o.op = Op.makeSlice t l c)
    (e : TypeId) (z : Value) (bytes : Nat) (h1 : P.underlying t = some (.slice e)) (h2 : (P.info? e).map (fun i => (i.zero, i.size, i.bytes)) = some (some z, 1, bytes)) (hz : z.cells = #[z])
    (kl kc : IntKind) (L C : Int) (n : Nat) (hl : a.eval l = .int kl L) (hc : a.eval c = .int kc C) (hL : L = (n : Int)) (hC : C = (n : Int)) (b2 : bytes * n ≤ 281474976710656) (b3 : n ≤ 9223372036854775807)
    (hK : ∀ w', RowAt w' w.heap.size e (List.replicate n z) → w'.heap.size = w.heap.size + 1 → Below w.heap.size w w' → wpList P ops Q rest (a.put o.dst (.slice (some ⟨w.heap.size, 0, none⟩) n n)) w') :
    wpList P ops Q (o :: rest) a w := by
  refine wpList_plain hg fun K hK' => ?_
  obtain ⟨i, hi, hz0, hz1, hz2⟩ := info_parts h2
  subst hL
  subst hC
  have hrun := run_make (P := P) w t e i z h1 hi hz0 kl kc n n (by omega) (by omega) (by rw [hz2]; rw [← Int.natCast_mul]; omega) (by omega)
  unfold Oper.wp
  simp [execOp, hop, hl, hc, hrun, Result.andThen]
  refine hK' _ _ (hK _ ?_ (by simp) (below_alloc w _))
  have := RowAt.new w (madeCells z.cells (n * i.size)) e
  rw [hz, hz1, Nat.mul_one, toList_madeCells_one] at this
  simpa [hz, hz1] using this

/-- All but block p is as it was, as far as it was there; more may have been made. -/
structure Apart (p : Nat) (w w' : World) : Prop where
  os : w'.os = w.os
  tape : w'.tape = w.tape
  output : w'.output = w.output
  size : w.heap.size ≤ w'.heap.size
  block : ∀ k, k < w.heap.size → k ≠ p → w'.heap[k]? = w.heap[k]?
theorem Apart.refl (p : Nat) (w : World) : Apart p w w := ⟨rfl, rfl, rfl, Nat.le_refl _, fun _ _ _ => rfl⟩
theorem Apart.trans {p : Nat} {u v w : World} (h : Apart p u v) (k : Apart p v w) : Apart p u w :=
  ⟨k.os.trans h.os, k.tape.trans h.tape, k.output.trans h.output, Nat.le_trans h.size k.size, fun i hi hn => (k.block i (Nat.lt_of_lt_of_le hi h.size) hn).trans (h.block i hi hn)⟩
theorem Apart.below {p B : Nat} {w w' : World} (h : Apart p w w') (hB : B ≤ p) (hs : B ≤ w.heap.size) : Below B w w' :=
  ⟨h.os, h.tape, h.output, h.size, fun k hk => h.block k (by omega) (by omega)⟩
theorem Apart.ofBelow {p : Nat} {w w' : World} (h : Below w.heap.size w w') : Apart p w w' := ⟨h.os, h.tape, h.output, h.size, fun k hk _ => h.block k hk⟩
theorem Apart.ofBut {p : Nat} {w w' : World} (h : But p w w') : Apart p w w' := ⟨h.os, h.tape, h.output, Nat.le_of_eq h.size.symm, fun k _ hn => h.block k hn⟩
theorem RowAt.apart {w w' : World} {b p : Nat} {t : TypeId} {vs : List Value} (h : RowAt w b t vs) (ha : Apart p w w') (hne : b ≠ p) : RowAt w' b t vs := by
  unfold RowAt
  rw [ha.block b h.lt hne]; exact h
/-- What lies above B, or is p itself, may turn. -/
theorem Apart.ofBelowAt {p B : Nat} {w w' : World} (h : Below B w w') (hs : w.heap.size ≤ B) : Apart p w w' := ⟨h.os, h.tape, h.output, h.size, fun k hk _ => h.block k (by omega)⟩

/-! ### bytes -/
def bv (b : UInt8) : Value := .int .u8 (b.toNat : Int)
def bc (T : List UInt8) : List Value := T.map bv
theorem bc_length (T : List UInt8) : (bc T).length = T.length := by simp [bc]
theorem bc_get (T : List UInt8) (i : Nat) (h : i < T.length) : (bc T)[i]? = some (.int .u8 (T[i].toNat : Int)) := by simp [bc, bv, h]
theorem bc_one (T : List UInt8) : ∀ v ∈ bc T, v.oneCell' = true := by
  intro v hv
  simp only [bc, List.mem_map] at hv
  obtain ⟨b, -, rfl⟩ := hv
  rfl
theorem bc_replicate (n : Nat) : List.replicate n (Value.int .u8 0) = bc (List.replicate n 0) := by simp [bc, bv]
theorem bc_splice (L : List UInt8) (o : Nat) (T : List UInt8) : splice (bc L) o (bc T) = bc (splice L o T) := by simp [splice, bc]
theorem bc_set (L : List UInt8) (i : Nat) (b : UInt8) : (bc L).set i (bv b) = bc (L.set i b) := by simp [bc, List.map_set]

/-- 'make([]T, n)' of elements of c cells that all are z: a new block of n*c of them. -/
theorem wpList_make_cells {P : Program} (w : World) {ops : Array Oper} {rest : List Oper} {o : Oper} {a : Act} {Q : Exit → Act → World → Prop}
    (hg : o.guard = none) (l c : Operand) (t : TypeId) (hop : o.op = Op.makeSlice t l c)
    (e : TypeId) (z : Value) (bytes k : Nat) (z0 : Value) (h1 : P.underlying t = some (.slice e)) (h2 : (P.info? e).map (fun i => (i.zero, i.size, i.bytes)) = some (some z, k, bytes)) (hz : z.cells = (List.replicate k z0).toArray) (hk : 0 < k)
    (kl kc : IntKind) (L C : Int) (n : Nat) (hl : a.eval l = .int kl L) (hc : a.eval c = .int kc C) (hL : L = (n : Int)) (hC : C = (n : Int)) (b2 : bytes * n ≤ 281474976710656) (b3 : n ≤ 9223372036854775807)
    (hK : ∀ w', RowAt w' w.heap.size e (List.replicate (n * k) z0) → w'.heap.size = w.heap.size + 1 → Below w.heap.size w w' → wpList P ops Q rest (a.put o.dst (.slice (some ⟨w.heap.size, 0, none⟩) n n)) w') :
    wpList P ops Q (o :: rest) a w := by
  refine wpList_plain hg fun K hK' => ?_
  obtain ⟨i, hi, hz0, hz1, hz2⟩ := info_parts h2
  subst hL
  subst hC
  have hrun := run_make (P := P) w t e i z h1 hi hz0 kl kc n n (by omega) (by omega) (by rw [hz2]; rw [← Int.natCast_mul]; omega) (by omega)
  unfold Oper.wp
  simp [execOp, hop, hl, hc, hrun, Result.andThen]
  refine hK' _ _ (hK _ ?_ (by simp) (below_alloc w _))
  have := RowAt.new w (madeCells z.cells (n * i.size)) e
  have hm : (madeCells z.cells (n * i.size)).toList = List.replicate (n * k) z0 := by
    rw [hz1, hz]
    unfold madeCells
    apply List.ext_getElem
    · simp
    · intro j h1 h2
      have : j % k < k := Nat.mod_lt _ hk
      simp [this]
  rw [hm] at this
  simpa using this
end Go.Proofs.Ytponlldgnlckfaa
