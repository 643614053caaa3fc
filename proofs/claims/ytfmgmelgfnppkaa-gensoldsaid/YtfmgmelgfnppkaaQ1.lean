/-
  A slice of ints as it lies in memory; one more of one's own; what a sort of nothing leaves.
-/
import Derived.Test.YtfmgmelgfnppkaaP9
import Derived.Shelf.Small.Bits
import Derived.Maps.AppendAt
namespace Go.Proofs.Ytfmgmelgfnppkaa
open Go.RowKit Go.Lib

def iv (x : Int) : Value := .int .i64 x
structure Ints (w : World) (a : Option Addr) (N : List Int) : Prop where
  at' : ∀ j, j < N.length → ∃ b off, a = some ⟨b, off, none⟩ ∧ w.cell? ⟨b, off + j, none⟩ = some (.int .i64 (N.getD j 0))
  wf : ∀ x ∈ N, (Lit.int .i64 x).wf = true
theorem cell_later {w w' : World} (h : Below w.heap.size w w') {p : Addr} {v : Value} (hc : w.cell? p = some v) : w'.cell? p = some v := by
  rw [h.cell (p := p) (block_lt_of_cell (a := p) hc)]; exact hc
theorem Ints.later {w w' : World} {a : Option Addr} {N : List Int} (h : Ints w a N) (hb : Below w.heap.size w w') : Ints w' a N := by
  refine ⟨fun j hj => ?_, h.wf⟩
  obtain ⟨b, off, rfl, h1⟩ := h.at' j hj
  exact ⟨b, off, rfl, cell_later hb h1⟩
theorem Ints.get {w : World} {a : Option Addr} {N : List Int} (h : Ints w a N) {j : Nat} (hj : j < N.length) : ∃ b off, a = some ⟨b, off, none⟩ ∧ w.cell? ⟨b, off + j, none⟩ = some (.int .i64 N[j]) ∧ (Lit.int .i64 N[j]).wf = true := by
  obtain ⟨b, off, h1, h2⟩ := h.at' j hj
  refine ⟨b, off, h1, ?_, h.wf _ (List.getElem_mem hj)⟩
  rw [h2]
  simp [hj]
theorem Ints.one {w : World} {b : Nat} {x : Int} (h : RowAt w b 3 [.int .i64 x]) (hw : (Lit.int .i64 x).wf = true) : Ints w (some ⟨b, 0, none⟩) [x] := by
  refine ⟨fun j hj => ⟨b, 0, rfl, ?_⟩, fun y hy => by simp at hy; rw [hy]; exact hw⟩
  have : j = 0 := by simpa using hj
  subst this
  rw [h.cell]; rfl

theorem own_form {w : World} {B e c n : Nat} {v : Value} {xs : List Value} (h : w.ownsRow B e c v n xs) :
    ∃ a cap, v = .slice a n cap ∧ (0 < n → ∃ g, a = some ⟨g, 0, none⟩ ∧ ∀ j, j < n * c → w.cell? ⟨g, j, none⟩ = xs[j]?) := by
  rcases h.2 with ⟨rfl, rfl⟩ | ⟨g, cap, cur, rfl, _⟩
  · exact ⟨none, 0, rfl, fun h => by omega⟩
  · exact ⟨_, cap, rfl, fun _ => ⟨g, rfl, fun j hj => h.cellAt j hj⟩⟩
theorem own_turn {w w' : World} {B e c n : Nat} {v : Value} {xs : List Value} (h : w.ownsRow B e c v n xs) (hb : ∀ k cur, B ≤ k → w.heap[k]? = some (.cells cur e (0, 0)) → w'.heap[k]? = some (.cells cur e (0, 0))) : w'.ownsRow B e c v n xs := by
  refine ⟨h.1, ?_⟩
  rcases h.2 with hn | ⟨g, cap, cur, rfl, hg, hgg, rest⟩
  · exact .inl hn
  · exact .inr ⟨g, cap, cur, rfl, hg, hb g cur hg hgg, rest⟩
theorem own_below {w w' : World} {B e c n : Nat} {v : Value} {xs : List Value} (h : w.ownsRow B e c v n xs) (hb : Below w.heap.size w w') : w'.ownsRow B e c v n xs :=
  own_turn h fun k _ _ hk => (hb.block k (lt_of_block hk)).trans hk

theorem info3 : (Try.prog.info? 3).map (fun i => (i.zero, i.size, i.bytes)) = some (some (.int .i64 0), 1, 8) := by kernel_rfl
/-- One int more of one's own. -/
theorem app_int {ops : Array Oper} {rest : List Oper} {o : Oper} {a : Act} {Q : Exit → Act → World → Prop} (B : Nat) (L : List Int) (wr : World) (hgd : o.guard = none) (s x : Operand)
    (ho : o.op = .call { callee := .builtin .append, args := #[s, x], argTypes := #[23, 23] }) (v : Value) (hs : a.eval s = v) (hown : wr.ownsRow B 3 1 v L.length (L.map iv))
    (p : Int) (n : Nat) (hn : n = wr.heap.size) (hx : a.eval x = .slice (some ⟨n, 0, none⟩) 1 1) (hl : L.length ≤ 1000000) (hb : B ≤ wr.heap.size)
    (hK : ∀ v' w3, w3.ownsRow B 3 1 v' (L ++ [p]).length ((L ++ [p]).map iv) → Below B wr w3 → wpList Try.prog ops Q rest (a.put o.dst v') w3) :
    wpList Try.prog ops Q (o :: rest) a (wr.alloc (.cells #[.int .i64 p] 3)) := by
  subst hn
  obtain ⟨i0, hi, hz0, hz1, hz2⟩ := info_parts info3
  refine wpList_append_own _ hgd s x 23 ho B 3 i0 _ 1 8 Try.underlying23 hi hz0 hz1 hz2 rfl (by decide) v _ _ hs (hown.alloc _) ⟨wr.heap.size, 0, none⟩ 1 1 [.int .i64 p] hx rfl (cell_one_new _ _ _) (by simp [Value.oneCell']) (by unfold maxLen; omega) (by omega) (by simp; omega) ?_
  intro v' w' hown' hgrow _
  refine hK v' w' (by simpa [iv] using hown') ?_
  exact ((below_alloc wr _).mono hb).grown hgrow (by simp; omega) fun j ej => (hown.lt j ej).1

/-! ### a sort of nothing -/
theorem pins0 (p : Option Addr) (cap : Nat) (fv : Value) (w : World) : Calls Try.prog 44 #[.slice p 0 cap, .int .i64 0, .int .i64 0, fv] w fun e w' => e = .returned (.tuple #[]) ∧ w' = w := by
  go_enter Try.func44, Try.ntmps44
  go_wp2
  refine wp_loop_rounds 1 ?_
  rw [rounds_succ]
  go_wp2
  go_end0
  exact ⟨rfl, rfl⟩
theorem ppdq0 (p : Option Addr) (cap : Nat) (lim : Int) (fv : Value) (w : World) : Calls Try.prog 41 #[.slice p 0 cap, .int .i64 0, .int .i64 0, .int .i64 lim, fv] w fun e w' => e = .returned (.tuple #[]) ∧ w' = w := by
  have hi := fun W => pins0 p cap fv W
  go_enter Try.func41, Try.ntmps41
  go_wp2
  refine wp_loop_rounds 1 ?_
  rw [rounds_succ]
  go_wp2_with (go_at_call 44; refine (hi _).mono ?_; rintro e w' ⟨rfl, rfl⟩)
  (try simp only [Exit.inBlock, Exit.then]); refine bodyPost_ret (results_none rfl _ _ _) rfl ?_
  exact ⟨rfl, rfl⟩
theorem psort0 (p : Option Addr) (cap : Nat) (fv : Value) (w : World) : Calls Try.prog 32 #[.slice p 0 cap, fv] w fun e w' => e = .returned (.tuple #[]) ∧ w' = w := by
  have hp := fun lim W => ppdq0 p cap lim fv W
  have hl : ∀ W, Calls Try.prog 42 #[.int .u64 0] W fun e w' => e = .returned (.int .i64 (Lib.bitLen 0 : Nat)) ∧ w' = W := fun W => by
    have h := Any.bits_Len (SlLaysF0.n15.bits (P := Try.prog) (ρ := Try.sortL_ren) { Try.sortL with }) 0 W (by omega) (by omega)
    exact h
  go_enter Try.func32, Try.ntmps32
  go_wp2_with (first | (go_at_call 42; refine (hl _).mono ?_; rintro e w' ⟨rfl, rfl⟩) | (go_at_call 41; refine (hp _ _).mono ?_; rintro e w' ⟨rfl, rfl⟩))
  go_end0
  exact ⟨rfl, rfl⟩
end Go.Proofs.Ytfmgmelgfnppkaa
