/-
  One int appended to a row of ints from block B on.
-/
import Derived.Test.YtpageadhmgoddaaOpen
import Derived.Maps.AppendAt
import Derived.Deep.CutBlock
import Derived.Deep.DeepCutAuto
namespace Go.Proofs.Ytpageadhmgoddaa
open Go.RowKit

theorem info3 : (Try.prog.info? 3).map (fun i => (i.zero, i.size, i.bytes)) = some (some (.int .i64 0), 1, 8) := by kernel_rfl
theorem grown_of_alloc {w w' : World} {o : Obj} {row : Option Nat} (h : (w.alloc o).grownBy w' row) : w.grownBy w' row :=
  ⟨h.os, h.tape, h.output, Nat.le_trans (by simp) h.size, fun k hk hn => by
    rw [h.block k (by rw [World.size_alloc]; omega) hn]
    exact Below.heap_alloc w o k hk⟩
theorem app_up {ops : Array Oper} {rest : List Oper} {o : Oper} {a : Act} {Q : Exit → Act → World → Prop} (B : Nat) (L : List Int) (wr : World) (hgd : o.guard = none) (s x : Operand)
    (ho : o.op = .call { callee := .builtin .append, args := #[s, x], argTypes := #[30, 30] }) (v : Value) (hs : a.eval s = v) (hown : wr.ownsRow B 3 1 v L.length (L.map iv))
    (p : Int) (hx : a.eval x = .slice (some ⟨wr.heap.size, 0, none⟩) 1 1) (hl : L.length ≤ 1000000) (hb : B ≤ wr.heap.size)
    (hK : ∀ v' w3, w3.ownsRow B 3 1 v' (L ++ [p]).length ((L ++ [p]).map iv) → Below B wr w3 → Ty (fun T => T == 3) wr w3 → wr.grownBy w3 v.ownBlock → (v'.ownBlock = v.ownBlock ∨ ∀ k, v'.ownBlock = some k → wr.heap.size ≤ k) → wpList Try.prog ops Q rest (a.put o.dst v') w3) :
    wpList Try.prog ops Q (o :: rest) a (wr.alloc (.cells #[.int .i64 p] 3)) := by
  obtain ⟨i0, hi, hz0, hz1, hz2⟩ := info_parts info3
  refine wpList_append_own_at _ hgd s x 30 ho B 3 i0 _ 1 8 Try.underlying30 hi hz0 hz1 hz2 rfl (by decide) v _ _ hs (hown.alloc _) ⟨wr.heap.size, 0, none⟩ 1 1 [.int .i64 p] hx rfl (cell_one_new _ _ _) (by simp [Value.oneCell']) (by unfold maxLen; omega) (by omega) (by simp; omega) ?_
  intro v' w' hown' hgrow _ hat
  refine hK v' w' (by simpa [iv] using hown') ?_ ?_ (grown_of_alloc hgrow) ?_
  · exact ((below_alloc wr _).mono hb).grown hgrow (by simp; omega) fun j ej => (hown.lt j ej).1
  · exact (Ty.ofBelow (below_alloc wr _)).trans (ty_grown (hown.alloc _) hgrow rfl)
  · rcases hat with h | h
    · exact Or.inl h
    · refine Or.inr fun k hk => ?_
      rw [h] at hk
      injection hk with hk
      rw [World.size_alloc] at hk
      omega
end Go.Proofs.Ytpageadhmgoddaa
