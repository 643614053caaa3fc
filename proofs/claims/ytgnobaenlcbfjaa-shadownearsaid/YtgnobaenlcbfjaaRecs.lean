/-
  A slice that came in, whose elements are structs of one-cell fields, as many as they are: each field's cell, and how it reads. No program is named here.
-/
import Derived.Deep.Slices
namespace Go.Proofs.Ytgnobaenlcbfjaa
open Go.ChangeShapes Go.WideShapes

theorem open_recs {H : Type} {enc : TypeId × Value → H} {P : Program} {w : World} {base : Nat} {spare : Nat → Bool} {held : Bool} {t e : TypeId} {fs : Array Field} {a : Option Addr} {len cap : Nat} {d : DataW H} {p : List MemPlace}
    (ht : P.underlying t = some (.slice e)) (he : P.underlying e = some (.struct fs)) (ce : P.cellsOf e = fs.size) (h1 : 0 < fs.size)
    (ho : ∀ (j : Nat) (f : Field), fs[j]? = some f → f.offset = j ∧ P.cellsOf f.type = 1)
    (h : DataW.Trod enc P w base spare held t (Value.slice a len cap) d p) :
    (a = none → cap = 0) ∧ (len ≤ cap ∧ cap ≤ maxLen) ∧
    ∃ V : Nat → Nat → Value, ∀ i, i < len → ∃ b off, a = some ⟨b, off, none⟩ ∧
      ∀ (j : Nat) (f : Field), fs[j]? = some f → w.cell? ⟨b, off + i * fs.size + j, none⟩ = some (V i j) ∧ ∃ n y q, DataW.trod enc P w base spare held n f.type [V i j] = some (y, q) := by
  obtain ⟨fuel, hf⟩ := h
  rcases Deep.open_slice ht hf with ⟨hcs, _⟩ | ⟨x, ln, cp, m, n, D, Pl, hcs, _, hl, hcm, hmm, hx, hc⟩
  · simp [Value.cells] at hcs
    obtain ⟨rfl, rfl, rfl⟩ := hcs
    exact ⟨fun _ => rfl, ⟨Nat.le_refl _, Nat.zero_le _⟩, fun _ _ => undef, fun i hi => by omega⟩
  · simp [Value.cells] at hcs
    obtain ⟨rfl, rfl, rfl⟩ := hcs
    have hlm : len ≤ m := by rw [hmm]; split <;> omega
    refine ⟨(fun h => by cases h), ⟨hl, hcm⟩, ?_⟩
    have each : ∀ i, i < m → ∃ q : List Value, q.length = fs.size ∧ ∀ j, j < fs.size → ∀ f, fs[j]? = some f → w.cell? (x.add (i * fs.size + j)) = some (q.getD j undef) ∧ ∃ n y p, DataW.trod enc P w base spare held n f.type [q.getD j undef] = some (y, p) := by
      intro i hi
      obtain ⟨cs', g1, g2⟩ := hc i hi
      rw [ce] at g1
      obtain ⟨_, hlen, hcell⟩ := World.cells?_some g1
      obtain ⟨xs, k, hk, hxy, _, hxl, hfl⟩ := DataW.trod_struct he g2
      refine ⟨cs', hlen, fun j hj f hfj => ?_⟩
      obtain ⟨o1, o2⟩ := ho j f hfj
      have hjl : j < cs'.length := by omega
      have e1 := hcell j hj
      rw [Deep.add_add, List.getElem?_eq_getElem hjl] at e1
      have e2 := hfl j f hfj
      rw [o1, o2] at e2
      have e3 : (cs'.drop j).take 1 = [cs'[j]] := by
        rw [List.drop_eq_getElem_cons hjl]; rfl
      rw [e3, List.getElem?_eq_getElem (by omega)] at e2
      have e4 : cs'.getD j undef = cs'[j] := by simp [hjl]
      rw [e4]
      exact ⟨e1, k, _, _, e2⟩
    obtain ⟨q, hq⟩ := Deep.choose_lt each
    refine ⟨fun i j => (q i).getD j undef, fun i hi => ?_⟩
    obtain ⟨b, off, spot⟩ := x
    have hsp : spot = none := by
      obtain ⟨f, hf0⟩ : ∃ f, fs[0]? = some f := ⟨fs[0], by simp [h1]⟩
      obtain ⟨h3, -⟩ := (hq 0 (by omega)).2 0 h1 f hf0
      simpa [Addr.add] using World.cell?_spot h3
    subst hsp
    refine ⟨b, off, rfl, fun j f hfj => ?_⟩
    have hj : j < fs.size := by
      by_cases hj : j < fs.size
      · exact hj
      · rw [Array.getElem?_eq_none (by omega)] at hfj; cases hfj
    obtain ⟨c1, n, y, p, c2⟩ := (hq i (by omega)).2 j hj f hfj
    rw [add_plain] at c1
    exact ⟨by simpa [Nat.add_assoc] using c1, n, y, p, c2⟩

end Go.Proofs.Ytgnobaenlcbfjaa
