/-
  A whole row appended to one that is not there yet.
-/
import Derived.Test.YtbkeoaombhhdiaaDoorP9
import Derived.Laws.AppendOwnNone
namespace Go.Proofs.YtbkeoaombhhdiaaDoor
open Go.RowKit

theorem app_strs {ops : Array Oper} {rest : List Oper} {o : Oper} {a : Act} {Q : Exit → Act → World → Prop} (B : Nat) (wr : World) (hgd : o.guard = Option.none) (s x : Operand)
    (ho : o.op = .call { callee := .builtin .append, args := #[s, x], argTypes := #[28, 28] }) (hs : a.eval s = .slice Option.none 0 0) (ad : Option Addr) (c : Nat) (L : List ByteArray)
    (hx : a.eval x = .slice ad L.length c) (hnil : ad = Option.none → c = 0) (hL : Strs wr ad L) (hl : L.length ≤ 1000000) (hb : B ≤ wr.heap.size)
    (hK : ∀ v' w3, OwnS w3 B v' L → Below B wr w3 → (∀ u V, OwnI wr B u V → OwnI w3 B u V) → wpList Tryd.prog ops Q rest (a.put o.dst v') w3) :
    wpList Tryd.prog ops Q (o :: rest) a wr := by
  obtain ⟨i0, hi, hz0, hz1, hz2⟩ := info_parts info9
  cases ad with
  | none =>
    obtain rfl := hnil rfl
    have hl0 : L = [] := by
      cases L with
      | nil => rfl
      | cons y r => obtain ⟨b, off, e, _⟩ := hL 0 (by simp); cases e
    subst hl0
    refine wpList_append_own_none hgd s x 28 ho B 9 i0 1 Tryd.underlying28 hi _ 0 _ hs (OwnS.nil wr B) hx ?_
    exact hK _ wr (OwnS.nil wr B) (Below.refl _ _) (fun _ _ h => h)
  | some ad =>
    refine wpList_append_own_at wr hgd s x 28 ho B 9 i0 _ 1 16 Tryd.underlying28 hi hz0 hz1 hz2 rfl (by decide) (.slice Option.none 0 0) 0 [] hs (OwnS.nil wr B) ad L.length c (L.map sv) hx (by simp) ?_ ?_ (by unfold maxLen; omega) (by omega) hb ?_
    · intro j u hj
      rw [List.getElem?_map] at hj
      by_cases hjl : j < L.length
      · obtain ⟨b, off, e, hc⟩ := hL j hjl
        obtain rfl := Option.some.inj e
        rw [WideShapes.add_plain, hc]
        simp [hjl] at hj
        simp [← hj, sv]
      · simp [Nat.le_of_not_lt hjl] at hj
    · intro u hu
      obtain ⟨y, _, rfl⟩ := List.mem_map.1 hu
      rfl
    · intro v' w' hown' hgrow _ _
      refine hK v' w' (by unfold OwnS; simpa using hown') ?_ ?_
      · exact (Below.refl B wr).grown hgrow hb (fun j ej => by cases ej)
      · intro u V hu
        exact hu.kept hgrow (own_other hu (OwnS.nil wr B) (by decide))
theorem app_ints {ops : Array Oper} {rest : List Oper} {o : Oper} {a : Act} {Q : Exit → Act → World → Prop} (B : Nat) (wr : World) (hgd : o.guard = Option.none) (s x : Operand)
    (ho : o.op = .call { callee := .builtin .append, args := #[s, x], argTypes := #[29, 29] }) (hs : a.eval s = .slice Option.none 0 0) (ad : Option Addr) (c : Nat) (L : List Int)
    (hx : a.eval x = .slice ad L.length c) (hnil : ad = Option.none → c = 0) (hL : Ints wr ad L) (hl : L.length ≤ 1000000) (hb : B ≤ wr.heap.size)
    (hK : ∀ v' w3, OwnI w3 B v' L → Below B wr w3 → (∀ u V, OwnS wr B u V → OwnS w3 B u V) → wpList Tryd.prog ops Q rest (a.put o.dst v') w3) :
    wpList Tryd.prog ops Q (o :: rest) a wr := by
  obtain ⟨i0, hi, hz0, hz1, hz2⟩ := info_parts info3
  cases ad with
  | none =>
    obtain rfl := hnil rfl
    have hl0 : L = [] := by
      cases L with
      | nil => rfl
      | cons y r => obtain ⟨b, off, e, _⟩ := hL 0 (by simp); cases e
    subst hl0
    refine wpList_append_own_none hgd s x 29 ho B 3 i0 1 Tryd.underlying29 hi _ 0 _ hs (OwnI.nil wr B) hx ?_
    exact hK _ wr (OwnI.nil wr B) (Below.refl _ _) (fun _ _ h => h)
  | some ad =>
    refine wpList_append_own_at wr hgd s x 29 ho B 3 i0 _ 1 8 Tryd.underlying29 hi hz0 hz1 hz2 rfl (by decide) (.slice Option.none 0 0) 0 [] hs (OwnI.nil wr B) ad L.length c (L.map iv) hx (by simp) ?_ ?_ (by unfold maxLen; omega) (by omega) hb ?_
    · intro j u hj
      rw [List.getElem?_map] at hj
      by_cases hjl : j < L.length
      · obtain ⟨b, off, e, hc⟩ := hL j hjl
        obtain rfl := Option.some.inj e
        rw [WideShapes.add_plain, hc]
        simp [hjl] at hj
        simp [← hj, iv]
      · simp [Nat.le_of_not_lt hjl] at hj
    · intro u hu
      obtain ⟨y, _, rfl⟩ := List.mem_map.1 hu
      rfl
    · intro v' w' hown' hgrow _ _
      refine hK v' w' (by unfold OwnI; simpa using hown') ?_ ?_
      · exact (Below.refl B wr).grown hgrow hb (fun j ej => by cases ej)
      · intro u V hu
        exact hu.kept hgrow (own_other hu (OwnI.nil wr B) (by decide))
end Go.Proofs.YtbkeoaombhhdiaaDoor
