/-
  The sums of what all just below each come to: the contract of claims; mayAsk, Held.
-/
import Derived.Test.YtimgpikgkbjliaaP4
import Derived.Deep.RegionHeld
namespace Go.Proofs.Ytimgpikgkbjliaa
open Go.RowKit

def iv (p : Int) : Value := .int .i64 p
def ci (N : List Int) : List Value := N.map iv
theorem ci_get (N : List Int) (i : Nat) (h : i < N.length) : (ci N)[i]? = some (.int .i64 (at0 N i)) := by simp [ci, iv, at0, h]
theorem ci_set (N : List Int) (i : Nat) (v : Int) : (ci N).set i (.int .i64 v) = ci (N.set i v) := by simp [ci, iv, List.map_set]
theorem ci_zero (n : Nat) : List.replicate n (Value.int .i64 0) = ci (List.replicate n 0) := by simp [ci, iv]
theorem Ints.ofRow {w : World} {b : Nat} {t : TypeId} {N : List Int} (h : RowAt w b t (ci N)) : Ints w (some ⟨b, 0, none⟩) N :=
  ⟨fun j hj => ⟨b, 0, rfl, by rw [Nat.zero_add, h.cell]; exact ci_get N j hj⟩⟩
theorem info3 : (Try.prog.info? 3).map (fun i => (i.zero, i.size, i.bytes)) = some (some (.int .i64 0), 1, 8) := by kernel_rfl

/-- What all just below each come to, of the first k. -/
def sums (l : List Nd) (k : Nat) : List Int := (List.range l.length).map fun (p : Nat) => sib l p k
theorem sums_len (l : List Nd) (k : Nat) : (sums l k).length = l.length := by simp [sums]
theorem sums_at (l : List Nd) (k p : Nat) (hp : p < l.length) : at0 (sums l k) p = sib l p k := by simp [sums, at0, hp]
theorem sums_zero (l : List Nd) : sums l 0 = List.replicate l.length 0 := by
  apply List.ext_getElem
  · simp [sums]
  · intro i h1 h2
    simp [sums, sib, sumN]
theorem sums_root {l : List Nd} {k : Nat} (h : par l k = -1) : sums l (k + 1) = sums l k := by
  apply List.ext_getElem
  · simp [sums]
  · intro i h1 h2
    have : ¬ par l k = (i : Int) := by omega
    simp [sums, sib, sumN, this]
theorem sums_step {l : List Nd} {k q : Nat} (h : par l k = q) : sums l (k + 1) = (sums l k).set q (sib l q k + low l k) := by
  apply List.ext_getElem
  · simp [sums]
  · intro i h1 h2
    rw [List.getElem_set]
    by_cases e : q = i
    · subst e
      simp [sums, sib, sumN, h]
    · have : ¬ par l k = (i : Int) := by omega
      simp [sums, sib, sumN, this, e]
theorem sib_le {l : List Nd} (h : Ok l) (up : Int) (n : Nat) : sib l up n ≤ n * 1099511627776 := by
  unfold sib
  induction n with
  | zero => simp [sumN]
  | succ n ih =>
    simp only [sumN]
    have := low_le h n
    split <;> omega
end Go.Proofs.Ytimgpikgkbjliaa
