/-
  A log of the program's with what lies below it; each call's contract on it.
-/
import Derived.Test.YtgnobaenlcbfjaaLMakes
import Derived.Laws.AppendOwnNone
import Derived.Laws.OwnMore
namespace Go.Proofs.Ytgnobaenlcbfjaa
open Go.RowKit

/-- The program's log at block c, made since w. -/
structure Lg (w wr : World) (c : Nat) (f k : Int → Int) : Prop where
  is : LgIs wr c f k
  lo : w.heap.size ≤ c
  bel : Below w.heap.size w wr
theorem newL {w w1 : World} (hb : Below w.heap.size w w1) : Calls Try.prog 16 #[] w1 fun e w' => ∃ c, e = .returned (.pointer (some ⟨c, 0, none⟩)) ∧ Lg w w' c (fun _ => 0) (fun _ => 0) ∧ Below w1.heap.size w1 w' :=
  (pnew w1).mono fun _ _ ⟨h1, h2, h3⟩ => ⟨_, h1, ⟨h2, hb.size, bel_trans hb h3 (Nat.le_refl _)⟩, h3⟩
theorem Lg.moved {w wr w' : World} {c : Nat} {f k f' k' : Int → Int} (h : Lg w wr c f k) (h2 : LgIs w' c f' k') (ha : Apart c wr w') : Lg w w' c f' k' :=
  ⟨h2, h.lo, h.bel.trans (ha.below h.lo h.bel.size)⟩
theorem Lg.later {w wr w' : World} {c : Nat} {f k : Int → Int} (h : Lg w wr c f k) (hb : Below wr.heap.size wr w') : Lg w w' c f k :=
  ⟨RowAt.later h.is hb, h.lo, bel_trans h.bel hb (Nat.le_refl _)⟩
theorem wentL {w wr : World} {c N : Nat} {f k : Int → Int} (h : Lg w wr c f k) (hf : Upto f N) (hN : N ≤ 1000000) (g : Int) :
    Calls Try.prog 18 #[.pointer (some ⟨c, 0, none⟩), .int .i64 g] wr fun e w' => e = .returned (.int .u64 (wentX f g)) ∧ Lg w w' c (up f g) k ∧ Apart c wr w' :=
  (pwent N c f k g wr h.is hf hN).mono fun _ _ ⟨h1, h2, h3⟩ => ⟨h1, h.moved h2 h3, h3⟩
theorem cameL {w wr : World} {c N M : Nat} {f k : Int → Int} (h : Lg w wr c f k) (hf : Upto f N) (hk : Upto k M) (hN : N ≤ 1000000) (hM : M ≤ 1000000) (x : Nat) (g r : Int) (hx : x < 18446744073709551616) :
    Calls Try.prog 20 #[.pointer (some ⟨c, 0, none⟩), .int .u64 x, .int .i64 g, .int .i64 r] wr fun e w' => e = .returned (.bool (cameB f x r)) ∧ Lg w w' c f (cameF f k x g r) ∧ Apart c wr w' :=
  (pcame N M c f k x g r wr h.is hf hk hN hM hx).mono fun _ _ ⟨h1, h2, h3⟩ => ⟨h1, h.moved h2 h3, h3⟩
theorem clockL {w wr : World} {c : Nat} {f k : Int → Int} (h : Lg w wr c f k) (g : Int) :
    Calls Try.prog 22 #[.pointer (some ⟨c, 0, none⟩), .int .i64 g] wr fun e w' => e = .returned (.int .i64 (ofG f g)) ∧ w' = wr := pclock c f k g wr h.is
theorem backL {w wr : World} {c : Nat} {f k : Int → Int} (h : Lg w wr c f k) (g : Int) :
    Calls Try.prog 23 #[.pointer (some ⟨c, 0, none⟩), .int .i64 g] wr fun e w' => e = .returned (.int .i64 (ofG k g)) ∧ w' = wr := pback c f k g wr h.is

/-! ### a row of words that grows -/
theorem ne_type {w : World} {b c : Nat} {t u : TypeId} {vs us : List Value} (h : RowAt w b t vs) (h2 : RowAt w c u us) (hne : t ≠ u) : b ≠ c := by
  intro e
  subst e
  unfold RowAt at h h2
  rw [h] at h2
  injection h2 with h3
  injection h3 with h4 h5
  exact hne h5
theorem own_turn {w w' : World} {B e c n : Nat} {v : Value} {xs : List Value} (h : w.ownsRow B e c v n xs) (hb : ∀ k cur, B ≤ k → w.heap[k]? = some (.cells cur e (0, 0)) → w'.heap[k]? = some (.cells cur e (0, 0))) : w'.ownsRow B e c v n xs := by
  refine ⟨h.1, ?_⟩
  rcases h.2 with hn | ⟨g, cap, cur, rfl, hg, hgg, rest⟩
  · exact .inl hn
  · exact .inr ⟨g, cap, cur, rfl, hg, hb g cur hg hgg, rest⟩
def mv (x : Nat) : Value := .int .u64 (x : Int)
def Md (B : Nat) (w : World) (v : Value) (L : List Nat) : Prop := w.ownsRow B 22 1 v L.length (L.map mv)
theorem Md.nil (B : Nat) (w : World) : Md B w (.slice none 0 0) [] := World.ownsRow_nil _ _ _ _
theorem Md.later {B : Nat} {w w' : World} {v : Value} {L : List Nat} (h : Md B w v L) (hb : Below w.heap.size w w') : Md B w' v L :=
  own_turn h fun k _ _ hk => (hb.block k (lt_of_block hk)).trans hk
theorem Md.drewN {B : Nat} {w : World} {v : Value} {L : List Nat} (h : Md B w v L) (n : Nat) : Md B (w.drewN n) v L := own_turn h fun _ _ _ hk => hk
theorem Md.apart {B c : Nat} {t : TypeId} {w w' : World} {v : Value} {L : List Nat} {vs : List Value} (h : Md B w v L) (hc : RowAt w c t vs) (ht : t ≠ 22) (ha : Apart c w w') : Md B w' v L :=
  own_turn h fun k cur _ hk => by
    rw [ha.block k (lt_of_block hk) (fun e => ?_)]
    · exact hk
    · subst e
      unfold RowAt at hc
      rw [hk] at hc
      injection hc with h3
      injection h3 with h4 h5
      exact ht h5.symm
theorem Md.shape {B : Nat} {w : World} {v : Value} {L : List Nat} (h : Md B w v L) :
    ∃ a cap, v = .slice a L.length cap ∧ ∀ j (hj : j < L.length), ∃ g, a = some ⟨g, 0, none⟩ ∧ w.cell? ⟨g, j, none⟩ = some (.int .u64 (L[j] : Int)) := by
  rcases h.2 with ⟨rfl, hn⟩ | ⟨g, cap, cur, rfl, _⟩
  · exact ⟨none, 0, by rw [hn], fun j hj => by omega⟩
  · refine ⟨_, cap, rfl, fun j hj => ⟨g, rfl, ?_⟩⟩
    rw [h.cellAt j (by omega)]
    simp [mv, hj]
theorem Md.at {B : Nat} {w : World} {a : Option Addr} {n cap : Nat} {L : List Nat} (h : Md B w (.slice a n cap) L) {j : Nat} (hj : j < L.length) : ∃ g, a = some ⟨g, 0, none⟩ ∧ w.cell? ⟨g, j, none⟩ = some (.int .u64 (L[j] : Int)) := by
  obtain ⟨a', cap', e, h2⟩ := h.shape
  injection e with e1 e2 e3
  subst e1
  exact h2 j hj
/-- What an append leaves of blocks of other types, and of what lay below. -/
theorem RowAt.grown {B : Nat} {w w' : World} {v : Value} {L : List Nat} {c : Nat} {t : TypeId} {vs : List Value} (h : RowAt w c t vs) (hm : Md B w v L) (hg : w.grownBy w' v.ownBlock) (ht : t ≠ 22) : RowAt w' c t vs := by
  unfold RowAt
  rw [hg.block c h.lt ?_]
  · exact h
  · intro he
    rcases hm.2 with ⟨rfl, -⟩ | ⟨g, cap, cur, rfl, -, hgg, -⟩
    · cases he
    · simp only [Value.ownBlock, Option.some.injEq] at he
      subst he
      unfold RowAt at h
      rw [hgg] at h
      injection h with h3
      injection h3 with h4 h5
      exact ht h5.symm
theorem Md.block {B : Nat} {w : World} {v : Value} {L : List Nat} (h : Md B w v L) : ∀ k, v.ownBlock = some k → B ≤ k := by
  intro k hk
  rcases h.2 with ⟨rfl, _⟩ | ⟨g, cap, cur, rfl, hg, _⟩
  · simp [Value.ownBlock] at hk
  · simp [Value.ownBlock] at hk; omega
theorem info22 : (Try.prog.info? 22).map (fun i => (i.zero, i.size, i.bytes)) = some (some (.int .u64 0), 1, 8) := by kernel_rfl
/-- 'append(made, x)', x in a fresh block. -/
theorem wpList_append_md {w : World} {ops : Array Oper} {rest : List Oper} {o : Oper} {a : Act} {Q : Exit → Act → World → Prop} (hgd : o.guard = none) (s x : Operand)
    (ho : o.op = .call { callee := .builtin .append, args := #[s, x], argTypes := #[35, 35] }) (B : Nat) (v : Value) (L : List Nat) (X q : Nat)
    (hs : a.eval s = v) (hown : Md B w v L) (hx : a.eval x = .slice (some ⟨q, 0, none⟩) 1 1) (hq : w.cell? ⟨q, 0, none⟩ = some (.int .u64 (X : Int))) (hl : L.length ≤ 1000000) (hbase : B ≤ w.heap.size)
    (hK : ∀ a' c' w', Md B w' (.slice a' (L.length + 1) c') (L ++ [X]) → w.grownBy w' v.ownBlock → wpList Try.prog ops Q rest (a.put o.dst (.slice a' (L.length + 1) c')) w') :
    wpList Try.prog ops Q (o :: rest) a w := by
  obtain ⟨i, hi, hz0, hz1, hz2⟩ := info_parts info22
  refine wpList_append_own w hgd s x 35 ho B 22 i (.int .u64 0) 1 8 Try.underlying35 hi hz0 hz1 hz2 rfl (by decide) v L.length _ hs hown ⟨q, 0, none⟩ 1 1 [mv X] hx rfl ?_ ?_ (by unfold maxLen; omega) (by omega) hbase ?_
  · intro j u hj
    have : j = 0 := by
      have := (List.getElem?_eq_some_iff.1 hj).1
      simp at this
      exact this
    subst this
    rw [WideShapes.add_plain, hq]
    simpa [mv] using hj
  · intro u hu
    simp at hu
    subst hu
    rfl
  · intro v' w' hown' hg _
    have hm : Md B w' v' (L ++ [X]) := by
      unfold Md
      simpa using hown'
    obtain ⟨a', c', e, -⟩ := hm.shape
    simp at e
    subst e
    exact hK a' c' w' hm hg
theorem grown_below {B : Nat} {w w' : World} {v : Value} {L : List Nat} (hm : Md B w v L) (hg : w.grownBy w' v.ownBlock) (hs : B ≤ w.heap.size) : Below B w w' :=
  (Below.refl B w).grown hg hs hm.block
theorem Lg.grown {B : Nat} {w wr w' : World} {c : Nat} {f k : Int → Int} {v : Value} {L : List Nat} (h : Lg w wr c f k) (hm : Md B wr v L) (hB : w.heap.size ≤ B) (hs : B ≤ wr.heap.size) (hg : wr.grownBy w' v.ownBlock) : Lg w w' c f k :=
  ⟨RowAt.grown h.is hm hg (by decide), h.lo, h.bel.trans ((grown_below hm hg hs).mono hB)⟩
theorem Lg.drewN {w wr : World} {c : Nat} {f k : Int → Int} (h : Lg w wr c f k) (n : Nat) : Lg w (wr.drewN n) c f k :=
  ⟨RowAt.drewN h.is n, h.lo, below_drawn h.bel n⟩
end Go.Proofs.Ytgnobaenlcbfjaa
