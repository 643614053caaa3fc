/-
  Rows of texts and of ints that a call lays from block B on, and that grow side by side.
-/
import Derived.Test.YtbkeoaombhhdiaaDoorP7
namespace Go.Proofs.YtbkeoaombhhdiaaDoor
open Go.RowKit

def sv (s : ByteArray) : Value := .string s
def iv (n : Int) : Value := .int .i64 n
def OwnS (w : World) (B : Nat) (v : Value) (L : List ByteArray) : Prop := w.ownsRow B 9 1 v L.length (L.map sv)
def OwnI (w : World) (B : Nat) (v : Value) (V : List Int) : Prop := w.ownsRow B 3 1 v V.length (V.map iv)
theorem own_other {w : World} {B B' : Nat} {e e' : TypeId} {v v' : Value} {n n' : Nat} {xs xs' : List Value} (h : w.ownsRow B e 1 v n xs) (h' : w.ownsRow B' e' 1 v' n' xs') (hne : e ≠ e') : v.ownBlock = Option.none ∨ v.ownBlock ≠ v'.ownBlock := by
  rcases h.2 with ⟨rfl, -⟩ | ⟨g, cap, cur, rfl, _, hg, _⟩
  · exact Or.inl rfl
  · refine Or.inr fun hh => ?_
    exact Lib.ownBlock_ne h' hg hne hh.symm
theorem OwnS.form {w : World} {B : Nat} {v : Value} {L : List ByteArray} (h : OwnS w B v L) : ∃ a c, v = .slice a L.length c ∧ Strs w a L := by
  have h0 := h
  rcases h0.2 with ⟨rfl, hn⟩ | ⟨g, cap, cur, rfl, hb, hg, hnc, hcm, hcs, htake⟩
  · refine ⟨Option.none, 0, by rw [hn], fun i hi => ?_⟩
    rw [hn] at hi
    cases hi
  · refine ⟨_, cap, rfl, fun i hi => ⟨g, 0, rfl, ?_⟩⟩
    have := World.ownsRow.cellAt (g := g) h i (by omega)
    rw [Nat.zero_add, this]
    simp [sv, hi]
theorem OwnI.form {w : World} {B : Nat} {v : Value} {V : List Int} (h : OwnI w B v V) : ∃ a c, v = .slice a V.length c ∧ Ints w a V := by
  have h0 := h
  rcases h0.2 with ⟨rfl, hn⟩ | ⟨g, cap, cur, rfl, hb, hg, hnc, hcm, hcs, htake⟩
  · refine ⟨Option.none, 0, by rw [hn], fun i hi => ?_⟩
    rw [hn] at hi
    cases hi
  · refine ⟨_, cap, rfl, fun i hi => ⟨g, 0, rfl, ?_⟩⟩
    have := World.ownsRow.cellAt (g := g) h i (by omega)
    rw [Nat.zero_add, this]
    simp [iv, hi]
theorem kept_below {w w' : World} {B : Nat} {e : TypeId} {v : Value} {n : Nat} {xs : List Value} (h : w.ownsRow B e 1 v n xs) (hb : Below w.heap.size w w') : w'.ownsRow B e 1 v n xs :=
  h.kept (grown_below hb) (by
    cases hv : v.ownBlock with
    | none => exact Or.inl rfl
    | some k => exact Or.inr (by simp))
theorem OwnS.below {w w' : World} {B : Nat} {v : Value} {L : List ByteArray} (h : OwnS w B v L) (hb : Below w.heap.size w w') : OwnS w' B v L := kept_below h hb
theorem OwnI.below {w w' : World} {B : Nat} {v : Value} {V : List Int} (h : OwnI w B v V) (hb : Below w.heap.size w w') : OwnI w' B v V := kept_below h hb
theorem OwnS.nil (w : World) (B : Nat) : OwnS w B (.slice Option.none 0 0) [] := World.ownsRow_nil w B 9 1
theorem OwnI.nil (w : World) (B : Nat) : OwnI w B (.slice Option.none 0 0) [] := World.ownsRow_nil w B 3 1

theorem info3 : (Tryd.prog.info? 3).map (fun i => (i.zero, i.size, i.bytes)) = some (some (.int .i64 0), 1, 8) := by kernel_rfl
theorem info9 : (Tryd.prog.info? 9).map (fun i => (i.zero, i.size, i.bytes)) = some (some (.string ⟨#[]⟩), 1, 16) := by kernel_rfl
theorem grown_of_alloc {w w' : World} {o : Obj} {row : Option Nat} (h : (w.alloc o).grownBy w' row) : w.grownBy w' row :=
  ⟨h.os, h.tape, h.output, Nat.le_trans (by simp) h.size, fun k hk hn => by
    rw [h.block k (by rw [World.size_alloc]; omega) hn]
    exact Below.heap_alloc w o k hk⟩
/-- One text more. -/
theorem app_str {ops : Array Oper} {rest : List Oper} {o : Oper} {a : Act} {Q : Exit → Act → World → Prop} (B : Nat) (L : List ByteArray) (wr : World) (hgd : o.guard = Option.none) (s x : Operand)
    (ho : o.op = .call { callee := .builtin .append, args := #[s, x], argTypes := #[28, 28] }) (v : Value) (hs : a.eval s = v) (hown : OwnS wr B v L)
    (p : ByteArray) (hx : a.eval x = .slice (some ⟨wr.heap.size, 0, Option.none⟩) 1 1) (hl : L.length ≤ 1000000) (hb : B ≤ wr.heap.size)
    (hK : ∀ v' w3, OwnS w3 B v' (L ++ [p]) → Below B wr w3 → (∀ u V, OwnI wr B u V → OwnI w3 B u V) → wpList Tryd.prog ops Q rest (a.put o.dst v') w3) :
    wpList Tryd.prog ops Q (o :: rest) a (wr.alloc (.cells #[.string p] 9)) := by
  obtain ⟨i0, hi, hz0, hz1, hz2⟩ := info_parts info9
  refine wpList_append_own_at _ hgd s x 28 ho B 9 i0 _ 1 16 Tryd.underlying28 hi hz0 hz1 hz2 rfl (by decide) v _ _ hs (hown.alloc _) ⟨wr.heap.size, 0, Option.none⟩ 1 1 [.string p] hx rfl (cell_one_new _ _ _) (by simp [Value.oneCell']) (by unfold maxLen; omega) (by omega) (by simp; omega) ?_
  intro v' w' hown' hgrow _ hat
  refine hK v' w' (by unfold OwnS; simpa [sv] using hown') ?_ ?_
  · exact ((below_alloc wr _).mono hb).grown hgrow (by simp; omega) fun j ej => (hown.lt j ej).1
  · intro u V hu
    exact hu.kept (grown_of_alloc hgrow) (own_other hu hown (by decide))
/-- One int more. -/
theorem app_int {ops : Array Oper} {rest : List Oper} {o : Oper} {a : Act} {Q : Exit → Act → World → Prop} (B : Nat) (L : List Int) (wr : World) (hgd : o.guard = Option.none) (s x : Operand)
    (ho : o.op = .call { callee := .builtin .append, args := #[s, x], argTypes := #[29, 29] }) (v : Value) (hs : a.eval s = v) (hown : OwnI wr B v L)
    (p : Int) (hx : a.eval x = .slice (some ⟨wr.heap.size, 0, Option.none⟩) 1 1) (hl : L.length ≤ 1000000) (hb : B ≤ wr.heap.size)
    (hK : ∀ v' w3, OwnI w3 B v' (L ++ [p]) → Below B wr w3 → (∀ u V, OwnS wr B u V → OwnS w3 B u V) → wpList Tryd.prog ops Q rest (a.put o.dst v') w3) :
    wpList Tryd.prog ops Q (o :: rest) a (wr.alloc (.cells #[.int .i64 p] 3)) := by
  obtain ⟨i0, hi, hz0, hz1, hz2⟩ := info_parts info3
  refine wpList_append_own_at _ hgd s x 29 ho B 3 i0 _ 1 8 Tryd.underlying29 hi hz0 hz1 hz2 rfl (by decide) v _ _ hs (hown.alloc _) ⟨wr.heap.size, 0, Option.none⟩ 1 1 [.int .i64 p] hx rfl (cell_one_new _ _ _) (by simp [Value.oneCell']) (by unfold maxLen; omega) (by omega) (by simp; omega) ?_
  intro v' w' hown' hgrow _ hat
  refine hK v' w' (by unfold OwnI; simpa [iv] using hown') ?_ ?_
  · exact ((below_alloc wr _).mono hb).grown hgrow (by simp; omega) fun j ej => (hown.lt j ej).1
  · intro u V hu
    exact hu.kept (grown_of_alloc hgrow) (own_other hu hown (by decide))
end Go.Proofs.YtbkeoaombhhdiaaDoor
