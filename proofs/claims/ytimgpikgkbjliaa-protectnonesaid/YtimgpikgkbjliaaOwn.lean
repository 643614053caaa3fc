/-
  Slices of nodes that a call lays itself by append; one of them stored through.
-/
import Derived.Test.YtimgpikgkbjliaaP5
import Derived.Laws.OwnMore
import Derived.Maps.AppendAt
namespace Go.Proofs.Ytimgpikgkbjliaa
open Go.RowKit

def flatN (L : List Nd) : List Value := L.flatMap nc
theorem flatN_len (L : List Nd) : (flatN L).length = L.length * 3 := by
  unfold flatN
  induction L with
  | nil => rfl
  | cons e L ih => rw [List.flatMap_cons, List.length_append, ih, List.length_cons]; simp [nc]; omega
theorem flatN_append (A B : List Nd) : flatN (A ++ B) = flatN A ++ flatN B := by simp [flatN]
theorem flatN_at (L : List Nd) (j i : Nat) (hj : j < L.length) (hi : i < 3) : (flatN L)[j * 3 + i]? = (nc (L.getD j nz))[i]? := by
  induction L generalizing j with
  | nil => simp at hj
  | cons e L ih =>
    have hl : (nc e).length = 3 := rfl
    cases j with
    | zero =>
      show (nc e ++ flatN L)[0 * 3 + i]? = _
      rw [Nat.zero_mul, Nat.zero_add, List.getElem?_append_left (by omega)]
      rfl
    | succ j =>
      show (nc e ++ flatN L)[(j + 1) * 3 + i]? = _
      rw [List.getElem?_append_right (by omega), hl]
      have : (j + 1) * 3 + i - 3 = j * 3 + i := by omega
      rw [this, ih j (by simpa using hj)]
      rfl
theorem flatN_one (L : List Nd) : ∀ u ∈ flatN L, u.oneCell' = true := by
  intro u hu
  obtain ⟨x, _, h⟩ := List.mem_flatMap.1 hu
  simp only [nc, List.mem_cons, List.not_mem_nil, or_false] at h
  rcases h with rfl | rfl | rfl <;> rfl
theorem flatN_set (L : List Nd) (i k : Nat) (y : Nd) (v : Value) (hi : i < L.length) (hk : k < 3) (hy : nc y = (nc (L.getD i nz)).set k v) : (flatN L).set (i * 3 + k) v = flatN (L.set i y) := by
  apply List.ext_getElem?
  intro j
  have hj3 : j / 3 * 3 + j % 3 = j := by omega
  by_cases hj : j < L.length * 3
  · have hjl : j / 3 < L.length := by omega
    have hm : j % 3 < 3 := Nat.mod_lt _ (by decide)
    have e2 := flatN_at (L.set i y) (j / 3) (j % 3) (by simpa using hjl) hm
    rw [hj3] at e2
    rw [e2]
    have e1 := flatN_at L (j / 3) (j % 3) hjl hm
    rw [hj3] at e1
    by_cases hq : j / 3 = i
    · have eg : (L.set i y).getD (j / 3) nz = y := by rw [hq]; simp [hi]
      rw [eg, hy]
      by_cases hr : j % 3 = k
      · have : i * 3 + k = j := by omega
        rw [this, List.getElem?_set_self (by rw [flatN_len]; exact hj), hr]
        have : k < (nc (L.getD i nz)).length := hk
        rw [List.getElem?_set_self this]
      · rw [List.getElem?_set_ne (by omega), e1, List.getElem?_set_ne (by omega), hq]
    · have eg : (L.set i y).getD (j / 3) nz = L.getD (j / 3) nz := by
        simp only [List.getD_eq_getElem?_getD]
        rw [List.getElem?_set_ne (fun e => hq e.symm)]
      rw [eg, List.getElem?_set_ne (by omega), e1]
  · rw [List.getElem?_eq_none (by rw [List.length_set, flatN_len]; omega), List.getElem?_eq_none (by rw [flatN_len, List.length_set]; omega)]

theorem info38 : (Try.prog.info? 38).map (fun i => (i.zero, i.size, i.bytes)) = some (some (.agg #[.int .i64 0, .int .i64 0, .int .i64 0]), 3, 24) := by kernel_rfl
theorem info46 : (Try.prog.info? 46).map (fun i => (i.zero, i.size, i.bytes)) = some (some (.agg #[.int .i64 0, .int .i64 0, .int .i64 0]), 3, 24) := by kernel_rfl

theorem nds_cells {w : World} {b off cap : Nat} {L : List Nd} (h : Nds w (some ⟨b, off, none⟩) cap L) : ∀ j u, (flatN L)[j]? = some u → w.cell? ((⟨b, off, none⟩ : Addr).add j) = some u := by
  intro j u hu
  have hj : j < L.length * 3 := by
    have := (List.getElem?_eq_some_iff.1 hu).1
    rwa [flatN_len] at this
  have h1 : j / 3 < L.length := by omega
  obtain ⟨b', off', e', hc⟩ := h.at' (j / 3) h1
  have e'' := Option.some.inj e'
  injection e'' with e1 e2
  subst e1
  subst e2
  have e := flatN_at L (j / 3) (j % 3) h1 (Nat.mod_lt _ (by decide))
  have e2 : j / 3 * 3 + j % 3 = j := by omega
  rw [e2, hu] at e
  have := hc (j % 3) u e.symm
  rw [WideShapes.add_plain]
  have e3 : off + j / 3 * 3 + j % 3 = off + j := by omega
  rwa [e3] at this
/-- As a list in memory. -/
theorem own_nds {w : World} {B : Nat} {t : TypeId} {v : Value} {L : List Nd} (h : w.ownsRow B t 3 v L.length (flatN L)) :
    ∃ a cap, v = .slice a L.length cap ∧ Nds w a cap L ∧ ∀ k, a.map (·.block) = some k → B ≤ k ∧ k < w.heap.size := by
  rcases h.2 with ⟨rfl, hn⟩ | ⟨g, cap, cur, rfl, hg, hr, h3, h4, h5, h6⟩
  · refine ⟨none, 0, by rw [hn], ⟨by omega, fun _ => rfl, fun j hj => by omega⟩, fun k hk => by cases hk⟩
  · refine ⟨_, cap, rfl, ⟨h3, fun h => (by cases h), fun j hj => ⟨g, 0, rfl, fun i v hv => ?_⟩⟩, fun k hk => ?_⟩
    · have hi : i < 3 := by
        have := (List.getElem?_eq_some_iff.1 hv).1
        simpa [nc] using this
      have e := flatN_at L j i hj hi
      rw [hv, ← h6, List.getElem?_take_of_lt (by omega)] at e
      rw [cell_of_row w g _ _ t _ hr]
      simpa using e
    · simp at hk
      subst hk
      exact ⟨hg, lt_of_block hr⟩

/-- A slice of nodes in a block of its own, room behind it. -/
def NdsOwn (w : World) (g cap : Nat) (L : List Nd) : Prop := ∃ cur : List Value, RowAt w g 38 cur ∧ L.length ≤ cap ∧ cur.length = cap * 3 ∧ cur.take (L.length * 3) = flatN L
theorem NdsOwn.later {w w' : World} {g cap : Nat} {L : List Nd} (h : NdsOwn w g cap L) (hb : Below w.heap.size w w') : NdsOwn w' g cap L := by
  obtain ⟨cur, h1, h2⟩ := h
  exact ⟨cur, h1.later hb, h2⟩
theorem NdsOwn.nds {w : World} {g cap : Nat} {L : List Nd} (h : NdsOwn w g cap L) : Nds w (some ⟨g, 0, none⟩) cap L := by
  obtain ⟨cur, h1, h2, h3, h4⟩ := h
  refine ⟨h2, fun h => (by cases h), fun j hj => ⟨g, 0, rfl, fun i v hv => ?_⟩⟩
  have hi : i < 3 := by
    have := (List.getElem?_eq_some_iff.1 hv).1
    simpa [nc] using this
  have e := flatN_at L j i hj hi
  rw [hv, ← h4, List.getElem?_take_of_lt (by omega)] at e
  rw [h1.cell]
  simpa using e
theorem own_own {w : World} {B : Nat} {v : Value} {L : List Nd} (h : w.ownsRow B 38 3 v L.length (flatN L)) (h0 : 0 < L.length) : ∃ g cap, v = .slice (some ⟨g, 0, none⟩) L.length cap ∧ NdsOwn w g cap L ∧ B ≤ g := by
  rcases h.2 with ⟨rfl, hn⟩ | ⟨g, cap, cur, rfl, hg, hr, h3, h4, h5, h6⟩
  · omega
  · exact ⟨g, cap, rfl, ⟨cur.toList, hr, h3, by simpa using h5, h6⟩, hg⟩
/-- One cell stored. -/
theorem NdsOwn.set {w : World} {g cap : Nat} {L : List Nd} (h : NdsOwn w g cap L) (i k : Nat) (y : Nd) (v : Value) (hi : i < L.length) (hk : k < 3) (hy : nc y = (nc (L.getD i nz)).set k v) :
    NdsOwn (w.setCell ⟨g, i * 3 + k, none⟩ v) g cap (L.set i y) := by
  obtain ⟨cur, h1, h2, h3, h4⟩ := h
  refine ⟨_, h1.set (i * 3 + k) v, by simpa using h2, by simpa using h3, ?_⟩
  rw [List.length_set, List.take_set, h4]
  exact flatN_set L i k y v hi hk hy
theorem NdsOwn.cell {w : World} {g cap : Nat} {L : List Nd} (h : NdsOwn w g cap L) (i k : Nat) (hi : i < L.length) (hk : k < 3) : (∃ v, w.cell? ⟨g, i * 3 + k, none⟩ = some v) ∧ w.frozen? ⟨g, i * 3 + k, none⟩ = false := by
  obtain ⟨cur, h1, h2, h3, h4⟩ := h
  refine ⟨?_, h1.frozen _⟩
  rw [h1.cell]
  exact ⟨_, List.getElem?_eq_getElem (show i * 3 + k < cur.length by omega)⟩
theorem grown_below {w0 w w' : World} {o : Option Nat} (hg : w.grownBy w' o) (hb : Below w0.heap.size w0 w) (ho : ∀ k, o = some k → w0.heap.size ≤ k) : Below w0.heap.size w0 w' :=
  ⟨hg.os.trans hb.os, hg.tape.trans hb.tape, hg.output.trans hb.output, Nat.le_trans hb.size hg.size, fun k hk => (hg.block k (Nat.lt_of_lt_of_le hk hb.size) (fun e => by have := ho k e.symm; omega)).trans (hb.block k hk)⟩
theorem grown_none {w w' : World} (hg : w.grownBy w' none) : Below w.heap.size w w' :=
  ⟨hg.os, hg.tape, hg.output, hg.size, fun k hk => hg.block k hk (fun e => by cases e)⟩
end Go.Proofs.Ytimgpikgkbjliaa
