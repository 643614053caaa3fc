/-
  A slice that came in, whose elements have c cells each, whatever they are: each element's cells, and how they read. No program is named here.
-/
import Derived.Deep.Slices
import Derived.Deep.MidRow
namespace Go.Proofs.Ytponlldgnlckfaa
open Go.ChangeShapes Go.WideShapes

theorem open_wide {H : Type} {enc : TypeId × Value → H} {P : Program} {w : World} {base : Nat} {spare : Nat → Bool} {held : Bool} {t e : TypeId} {c : Nat} {a : Option Addr} {len cap : Nat} {d : DataW H} {p : List MemPlace}
    (ht : P.underlying t = some (.slice e)) (ce : P.cellsOf e = c) (h1 : 0 < c) (h : DataW.Trod enc P w base spare held t (Value.slice a len cap) d p) :
    (a = none → cap = 0) ∧ (len = 0 ∨ ∃ es sp, d = .slice es sp ∧ es.length = len) ∧
    ∃ V : Nat → List Value, ∀ i, i < len → ∃ b off, a = some ⟨b, off, none⟩ ∧ (V i).length = c ∧ w.rangeAt b (off + i * c) (V i) ∧ ∃ n y, DataW.trod enc P w base spare held n e (V i) = some y := by
  obtain ⟨fuel, hf⟩ := h
  rcases Deep.open_slice ht hf with ⟨hcs, _⟩ | ⟨x, ln, cp, m, n, D, Pl, hcs, _, hl, _, hmm, hx, hc⟩
  · simp [Value.cells] at hcs
    obtain ⟨rfl, rfl, rfl⟩ := hcs
    exact ⟨fun _ => rfl, Or.inl rfl, fun _ => [], fun i hi => by omega⟩
  · simp [Value.cells] at hcs
    obtain ⟨rfl, rfl, rfl⟩ := hcs
    have hlm : len ≤ m := by rw [hmm]; split <;> omega
    refine ⟨(fun h => by cases h), Or.inr ⟨_, _, (Prod.mk.inj hx).1, by simp⟩, ?_⟩
    have each : ∀ i, i < m → ∃ q : List Value, q.length = c ∧ (∀ j, j < c → w.cell? (x.add (i * c + j)) = q[j]?) ∧ ∃ n y, DataW.trod enc P w base spare held n e q = some y := by
      intro i hi
      obtain ⟨cs', g1, g2⟩ := hc i hi
      rw [ce] at g1
      obtain ⟨_, hlen, hcell⟩ := World.cells?_some g1
      refine ⟨cs', hlen, fun j hj => ?_, _, _, g2⟩
      have e1 := hcell j hj
      rw [Deep.add_add] at e1
      exact e1
    obtain ⟨q, hq⟩ := Deep.choose_lt each
    refine ⟨q, fun i hi => ?_⟩
    obtain ⟨b, off, spot⟩ := x
    have hsp : spot = none := by
      obtain ⟨l1, l2, -⟩ := hq 0 (by omega)
      have l3 := l2 0 h1
      rw [List.getElem?_eq_getElem (by omega)] at l3
      simpa [Addr.add] using World.cell?_spot l3
    subst hsp
    obtain ⟨l1, l2, l3⟩ := hq i (by omega)
    refine ⟨b, off, rfl, l1, fun j v hv => ?_, l3⟩
    have hj : j < c := by
      have := (List.getElem?_eq_some_iff.1 hv).1
      omega
    have e1 := l2 j hj
    rw [add_plain] at e1
    rw [← hv, ← e1]
    congr 2
    omega

end Go.Proofs.Ytponlldgnlckfaa
