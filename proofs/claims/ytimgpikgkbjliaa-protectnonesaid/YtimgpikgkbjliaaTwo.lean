/-
  Two slices of nodes that grow side by side, beside a row of ints.
-/
import Derived.Test.YtimgpikgkbjliaaOwn
import Derived.Test.YtimgpikgkbjliaaR4
namespace Go.Proofs.Ytimgpikgkbjliaa
open Go.RowKit

theorem own_keep {w w' : World} {B e c n : Nat} {v : Value} {xs : List Value} (h : w.ownsRow B e c v n xs) (hb : ∀ g, v.ownBlock = some g → w'.heap[g]? = w.heap[g]?) : w'.ownsRow B e c v n xs := by
  refine ⟨h.1, ?_⟩
  rcases h.2 with ⟨rfl, hn⟩ | ⟨g, cap, cur, rfl, hg, hr, h3⟩
  · exact .inl ⟨rfl, hn⟩
  · exact .inr ⟨g, cap, cur, rfl, hg, (hb g rfl).trans hr, h3⟩
theorem own_blk {w : World} {B e c n : Nat} {v : Value} {xs : List Value} (h : w.ownsRow B e c v n xs) {k : Nat} (hk : v.ownBlock = some k) : B ≤ k ∧ k < w.heap.size ∧ ∃ cur, w.heap[k]? = some (.cells cur e (0, 0)) := by
  rcases h.2 with ⟨rfl, hn⟩ | ⟨g, cap, cur, rfl, hg, hr, h3⟩
  · cases hk
  · simp [Value.ownBlock] at hk
    subst hk
    exact ⟨hg, lt_of_block hr, cur, hr⟩
/-- append to a row of its own, as one step of a region that draws; and where the new slice lies. -/
theorem step_append_at {P : Program} {ops : Array Oper} {o : Oper} {a : Act} {w : World} {K : Act → World → Prop} {Q : Exit → Act → World → Prop} {E : Prop}
    (hg : o.guard = none) (s x : Operand) (t : TypeId) (hop : o.op = Op.call { callee := Callee.builtin Builtin.append, args := #[s, x], argTypes := #[t, t] })
    (B : Nat) (e : TypeId) (z : Value) (size bytes : Nat) (h1 : P.underlying t = some (.slice e)) (h2 : (P.info? e).map (fun i => (i.zero, i.size, i.bytes)) = some (some z, size, bytes)) (h6 : z.cells.size = size) (h7 : 0 < size)
    (v : Value) (n : Nat) (xs : List Value) (hs : a.eval s = v) (hown : w.ownsRow B e size v n xs)
    (ad : Addr) (m c : Nat) (news : List Value) (hx : a.eval x = .slice (some ad) m c) (hn : news.length = m * size) (hc : ∀ j u, news[j]? = some u → w.cell? (ad.add j) = some u) (h1c : ∀ u ∈ news, u.oneCell' = true)
    (b1 : n + m ≤ maxLen) (b2 : (n + m) * bytes ≤ 140737488355328) (hB : B ≤ w.heap.size)
    (hK : ∀ a' c' w', w'.ownsRow B e size (.slice a' (n + m) c') (n + m) (xs ++ news) → w.grownBy w' v.ownBlock → ((Value.slice a' (n + m) c').ownBlock = v.ownBlock ∨ (Value.slice a' (n + m) c').ownBlock = some w.heap.size) → K (a.put o.dst (.slice a' (n + m) c')) w') :
    if Region.wanted o (yielded ops a.tmps) = true then Oper.wp P o a w K Q else E := by
  have hw : Region.wanted o (yielded ops a.tmps) = true := by simp [Region.wanted, hg]
  rw [if_pos hw]
  obtain ⟨i, hi, hz0, hz1, hz2⟩ := info_parts h2
  obtain ⟨v', w', hrun, r1, r2, _, r3⟩ := run_append_own_at (P := P) w B t o.type e i z size bytes h1 hi hz0 hz1 hz2 h6 h7 v n xs hown ad m c news hn hc h1c b1 b2 hB
  obtain ⟨a', c', rfl⟩ := own_form r1
  unfold Oper.wp
  simp [execOp, hop, resolve, invoke, builtin, hs, hx, hrun, Result.andThen]
  exact hK a' c' w' r1 r2 r3

/-- Both slices, and the row. -/
structure Two (w0 : World) (bu : Nat) (U : List Int) (w : World) (v1 v2 : Value) (n1 n2 : Nat) (A1 A2 : List Value) : Prop where
  r1 : w.ownsRow w0.heap.size 38 3 v1 n1 A1
  r2 : w.ownsRow w0.heap.size 38 3 v2 n2 A2
  dj : ∀ k, v1.ownBlock = some k → v2.ownBlock ≠ some k
  u : RowAt w bu 3 (ci U)
  b : Below w0.heap.size w0 w
theorem Two.swap {w0 : World} {bu : Nat} {U : List Int} {w : World} {v1 v2 : Value} {n1 n2 : Nat} {A1 A2 : List Value} (h : Two w0 bu U w v1 v2 n1 n2 A1 A2) : Two w0 bu U w v2 v1 n2 n1 A2 A1 :=
  ⟨h.r2, h.r1, fun k h1 h2 => h.dj k h2 h1, h.u, h.b⟩
theorem Two.drewN {w0 : World} {bu : Nat} {U : List Int} {w : World} {v1 v2 : Value} {n1 n2 : Nat} {A1 A2 : List Value} (h : Two w0 bu U w v1 v2 n1 n2 A1 A2) (n : Nat) : Two w0 bu U (w.drewN n) v1 v2 n1 n2 A1 A2 :=
  ⟨h.r1, h.r2, h.dj, h.u, below_drawn h.b n⟩
/-- The first one has grown. -/
theorem Two.app {w0 : World} {bu : Nat} {U : List Int} {w w' : World} {v1 v2 v' : Value} {n1 n2 m1 : Nat} {A1 A2 A' : List Value} (h : Two w0 bu U w v1 v2 n1 n2 A1 A2) (ob : Obj)
    (hown : w'.ownsRow w0.heap.size 38 3 v' m1 A') (hg : (w.alloc ob).drew.grownBy w' v1.ownBlock) (hat : v'.ownBlock = v1.ownBlock ∨ v'.ownBlock = some (w.alloc ob).drew.heap.size) : Two w0 bu U w' v' v2 m1 n2 A' A2 := by
  have hsz : (w.alloc ob).drew.heap.size = w.heap.size + 1 := by show (w.alloc ob).heap.size = _; simp
  have hkeep : ∀ g, g < w.heap.size → v1.ownBlock ≠ some g → w'.heap[g]? = w.heap[g]? := by
    intro g hgl hne
    rw [hg.block g (by rw [hsz]; omega) (fun e => hne e.symm)]
    exact Below.heap_alloc w ob g hgl
  refine ⟨hown, own_keep h.r2 fun g hg2 => ?_, fun k h1 h2 => ?_, ?_, ?_⟩
  · exact hkeep g (own_blk h.r2 hg2).2.1 (fun e => h.dj g e hg2)
  · rcases hat with e | e
    · exact h.dj k (e ▸ h1) h2
    · rw [e] at h1
      injection h1 with h1
      have := (own_blk h.r2 h2).2.1
      omega
  · unfold RowAt
    rw [hkeep bu h.u.lt ?_]
    · exact h.u
    · intro e
      obtain ⟨-, -, cur, hc⟩ := own_blk h.r1 e
      have := h.u
      unfold RowAt at this
      rw [this] at hc
      injection hc with hc
      injection hc with _ hc
      cases hc
  · have hb2 : Below w0.heap.size w0 (w.alloc ob).drew := below_drawn (bel_trans h.b (below_alloc _ _)) 1
    exact grown_below hg hb2 fun k hk => (own_blk h.r1 hk).1
end Go.Proofs.Ytimgpikgkbjliaa
