/-
  A slice of ints that the call itself makes by append, told as the list that it holds.
-/
import Derived.Test.YtlpbpibjofepjaaW7
import Derived.Laws.AppendOwnNone
namespace Go.Proofs.Ytlpbpibjofepjaa
open Go.RowKit
theorem own_shape {w : World} {B : Nat} {v : Value} {n : Nat} {l : List Int} (h : w.ownsRow B 3 1 v n (l.map (Value.int .i64))) :
    n = l.length ∧ ∃ a cap, v = .slice a n cap ∧ IntsAt w a l ∧ (a = none → cap = 0) := by
  have hn : n = l.length := by have := h.1; simp at this; omega
  refine ⟨hn, ?_⟩
  rcases h.2 with ⟨rfl, rfl⟩ | ⟨g, cap, cur, rfl, hg, hh, hc, hm, hs, ht⟩
  · have : l = [] := by simpa using hn.symm
    subst this
    exact ⟨none, 0, rfl, IntsAt.nil _ _, fun _ => rfl⟩
  · refine ⟨_, cap, rfl, fun i hi => ⟨g, 0, rfl, ?_⟩, fun h => by cases h⟩
    rw [Nat.zero_add, h.cellAt i (by omega)]
    simp [hi]

theorem own_block {w : World} {B : Nat} {v : Value} {n : Nat} {xs : List Value} (h : w.ownsRow B 3 1 v n xs) : ∀ k, v.ownBlock = some k → B ≤ k := by
  intro k hk
  rcases h.2 with ⟨rfl, _⟩ | ⟨g, cap, cur, rfl, hg, _⟩
  · simp [Value.ownBlock] at hk
  · simp [Value.ownBlock] at hk; omega

theorem grown_refl (w : World) (r : Option Nat) : w.grownBy w r := ⟨rfl, rfl, rfl, Nat.le_refl _, fun _ _ _ => rfl⟩

theorem wpList_append_ints {w : World} {ops : Array Oper} {rest : List Oper} {o : Oper} {a : Act} {Q : Exit → Act → World → Prop} (hgd : o.guard = none) (s x : Operand)
    (ho : o.op = .call { callee := .builtin .append, args := #[s, x], argTypes := #[43, 43] }) (B : Nat) (v : Value) (n : Nat) (l news : List Int) (ad : Option Addr) (m c : Nat)
    (hs : a.eval s = v) (hown : w.ownsRow B 3 1 v n (l.map (Value.int .i64))) (hx : a.eval x = .slice ad m c) (hm : m = news.length) (hnil : ad = none → c = 0) (hnews : IntsAt w ad news)
    (hbytes : (n + m) * 8 ≤ 140737488355328) (hbase : B ≤ w.heap.size)
    (hK : ∀ a' c' w', w'.ownsRow B 3 1 (.slice a' (n + m) c') (n + m) ((l ++ news).map (Value.int .i64)) → (a' = none → c' = 0) → IntsAt w' a' (l ++ news) → w.grownBy w' v.ownBlock → wpList Try.prog ops Q rest (a.put o.dst (.slice a' (n + m) c')) w') :
    wpList Try.prog ops Q (o :: rest) a w := by
  obtain ⟨i, hi, hz0, hz1, hz2⟩ := info_parts info3
  cases ad with
  | none =>
    obtain rfl := hnil rfl
    have hl0 : news = [] := by
      cases news with
      | nil => rfl
      | cons y r => obtain ⟨b, off, e, _⟩ := hnews 0 (by simp); cases e
    subst hl0
    have hm0 : m = 0 := by simpa using hm
    subst hm0
    obtain ⟨hn, a', c', rfl, hI, hc⟩ := own_shape hown
    refine wpList_append_own_none hgd s x 43 ho B 3 i 1 Try.underlying43 hi _ n _ hs hown hx ?_
    exact hK a' c' w (by simpa using hown) hc (by simpa using hI) (grown_refl _ _)
  | some ad =>
    refine wpList_append_own w hgd s x 43 ho B 3 i (.int .i64 0) 1 8 Try.underlying43 hi hz0 hz1 hz2 rfl (by decide) v n _ hs hown ad m c (news.map (Value.int .i64)) hx (by simp [hm]) ?_ ?_ (by unfold maxLen; omega) hbytes hbase ?_
    · intro j u hj
      rw [List.getElem?_map] at hj
      by_cases hjl : j < news.length
      · obtain ⟨b, off, e, hc⟩ := hnews j hjl
        obtain rfl := Option.some.inj e
        rw [WideShapes.add_plain, hc]
        simp [hjl] at hj
        simp [hjl, hj]
      · simp [Nat.le_of_not_lt hjl] at hj
    · intro u hu
      simp only [List.mem_map] at hu
      obtain ⟨y, _, rfl⟩ := hu
      rfl
    · intro v' w' hown' hg _
      rw [← List.map_append] at hown'
      obtain ⟨hn, a', c', rfl, hI, hc⟩ := own_shape hown'
      exact hK a' c' w' hown' hc hI hg

/-- The same, with what is old told by 'Below', the length and the list as they are spelt. -/
theorem wpList_append_on {w : World} {ops : Array Oper} {rest : List Oper} {o : Oper} {a : Act} {Q : Exit → Act → World → Prop} (hgd : o.guard = none) (s x : Operand)
    (ho : o.op = .call { callee := .builtin .append, args := #[s, x], argTypes := #[43, 43] }) (W0 : World) (B : Nat) (v : Value) (n : Nat) (l news L : List Int) (N : Nat) (ad : Option Addr) (m c : Nat)
    (hs : a.eval s = v) (hown : w.ownsRow B 3 1 v n (l.map (Value.int .i64))) (hx : a.eval x = .slice ad m c) (hm : m = news.length) (hnil : ad = none → c = 0) (hnews : IntsAt w ad news)
    (hL : L = l ++ news) (hN : N = n + m) (hbytes : N * 8 ≤ 140737488355328) (hbase : B ≤ w.heap.size) (hbel : Below B W0 w)
    (hK : ∀ a' c' w', w'.ownsRow B 3 1 (.slice a' N c') N (L.map (Value.int .i64)) → IntsAt w' a' L → Below B W0 w' → wpList Try.prog ops Q rest (a.put o.dst (.slice a' N c')) w') :
    wpList Try.prog ops Q (o :: rest) a w := by
  subst hL; subst hN
  refine wpList_append_ints hgd s x ho B v n l news ad m c hs hown hx hm hnil hnews hbytes hbase ?_
  intro a' c' w' h1 _ h2 h3
  exact hK a' c' w' h1 h2 (hbel.grown h3 hbase (own_block hown))

theorem own_nil (w : World) (B : Nat) : w.ownsRow B 3 1 (.slice none 0 0) 0 (([] : List Int).map (Value.int .i64)) := World.ownsRow_nil _ _ _ _


end Go.Proofs.Ytlpbpibjofepjaa
