/-
  What the rows hand a walk: a slice of acts that came in, read as a list; a slice of ints, of bools.
-/
import Derived.Test.YtfmgmelgfnppkaaOwn
import Derived.Test.YtfmgmelgfnppkaaRecs
import Derived.ProofKit
import Derived.OpenShut
import Derived.ChangeOld
import Derived.Deep.DeepHandedRow
import Derived.SizedLaws
import Derived.ChangeMaps5
namespace Go.Proofs.Ytfmgmelgfnppkaa
open Go.ChangeShapes Go.WideShapes Go.ChangeAt Go.RowKit

def acCells (r : Ac) : List Value := [.int .i64 r.k, .int .i64 r.id, .int .i64 r.g, .bool r.o]
structure ActsAt (w : World) (a : Option Addr) (l : List Ac) : Prop where
  c : ∀ i (h : i < l.length), ∃ b off, a = some ⟨b, off, none⟩ ∧ w.rangeAt b (off + i * 4) (acCells l[i])
  w : ∀ r ∈ l, AcW r
theorem ActsAt.below {w w' : World} {a : Option Addr} {l : List Ac} (h : ActsAt w a l) (hb : Below w.heap.size w w') : ActsAt w' a l := by
  refine ⟨fun i hi => ?_, h.w⟩
  obtain ⟨b, off, rfl, h1⟩ := h.c i hi
  exact ⟨b, off, rfl, fun j v hv => cell_later hb (h1 j v hv)⟩
theorem ActsAt.at {w : World} {a : Option Addr} {l : List Ac} (h : ActsAt w a l) {i : Nat} (hi : i < l.length) : ∃ b off, a = some ⟨b, off, none⟩ ∧ w.cell? ⟨b, off + i * 4, none⟩ = some (.int .i64 l[i].k) ∧ w.cell? ⟨b, off + i * 4 + 1, none⟩ = some (.int .i64 l[i].id) ∧ w.cell? ⟨b, off + i * 4 + 2, none⟩ = some (.int .i64 l[i].g) ∧ w.cell? ⟨b, off + i * 4 + 3, none⟩ = some (.bool l[i].o) ∧ AcW l[i] := by
  obtain ⟨b, off, rfl, h1⟩ := h.c i hi
  exact ⟨b, off, rfl, h1 0 _ rfl, h1 1 _ rfl, h1 2 _ rfl, h1 3 _ rfl, h.w _ (List.getElem_mem hi)⟩
/-- What the acts up to one do. -/
def doN (l : List Ac) (i : Nat) : List En := (l.take i).foldl doA []
theorem doN_zero (l : List Ac) : doN l 0 = [] := rfl
theorem doN_succ (l : List Ac) (i : Nat) (h : i < l.length) : doN l (i + 1) = doA (doN l i) l[i] := by
  unfold doN
  rw [List.take_succ_eq_append_getElem h, List.foldl_append]
  rfl
theorem doN_len (l : List Ac) (i : Nat) (hi : i ≤ l.length) : (doN l i).length ≤ i := by
  induction i with
  | zero => exact Nat.le_refl _
  | succ i ih =>
    rw [doN_succ l i (by omega)]
    have := doA_len (doN l i) (l[i]'(by omega))
    have := ih (by omega)
    omega
theorem doN_ok (l : List Ac) (i : Nat) (hi : i ≤ l.length) : Ok (doN l i) := by
  induction i with
  | zero => exact Ok.nil
  | succ i ih =>
    rw [doN_succ l i (by omega)]
    exact doA_ok (ih (by omega)) _

theorem own : ownKnob Try.prog.godebug = none := by kernel_rfl
theorem laidOut : laidOutB Try.prog = true := by kernel_rfl
theorem cells3 : Try.prog.cellsOf 3 = 1 := by kernel_rfl
theorem cells4 : Try.prog.cellsOf 4 = 1 := by kernel_rfl

theorem rec_of {H : Type} {enc : TypeId × Value → H} {w : World} {base : Nat} {spare : Nat → Bool} {held : Bool} (V : Nat → Value)
    (hV : ∀ (j : Nat) (f : Field), (Try.prog.fieldsOf 33)[j]? = some f → ∃ n y q, DataW.trod enc Try.prog w base spare held n f.type [V j] = some (y, q)) :
    ∃ r : Ac, acCells r = [V 0, V 1, V 2, V 3] ∧ AcW r := by
  obtain ⟨n0, y0, q0, g0⟩ := hV 0 _ rfl
  obtain ⟨n1, y1, q1, g1⟩ := hV 1 _ rfl
  obtain ⟨n2, y2, q2, g2⟩ := hV 2 _ rfl
  obtain ⟨n3, y3, q3, g3⟩ := hV 3 _ rfl
  obtain ⟨K, e0, -, -⟩ := DataW.trod_int Try.underlying3 g0
  obtain ⟨I, e1, -, h1⟩ := DataW.trod_int Try.underlying3 g1
  obtain ⟨G, e2, -, -⟩ := DataW.trod_int Try.underlying3 g2
  obtain ⟨O, e3, -⟩ := DataW.trod_bool Try.underlying4 g3
  simp at e0 e1 e2 e3
  exact ⟨⟨K, I, G, O⟩, by rw [e0, e1, e2, e3]; rfl, ⟨h1⟩⟩

theorem under33 : Try.prog.underlying 33 = some (.struct (Try.prog.fieldsOf 33)) := by kernel_rfl
theorem size33 : (Try.prog.fieldsOf 33).size = 4 := by kernel_rfl
theorem fields33 : ∀ (j : Nat) (f : Field), (Try.prog.fieldsOf 33)[j]? = some f → f.offset = j ∧ Try.prog.cellsOf f.type = 1 := by
  intro j f hf
  have hj : j < (Try.prog.fieldsOf 33).size := by
    by_cases hj : j < (Try.prog.fieldsOf 33).size
    · exact hj
    · rw [Array.getElem?_eq_none (by omega)] at hf; cases hf
  rw [size33] at hj
  have : j = 0 ∨ j = 1 ∨ j = 2 ∨ j = 3 := by omega
  rcases this with rfl | rfl | rfl | rfl
  · obtain rfl := Option.some.inj hf; exact ⟨rfl, cells3⟩
  · obtain rfl := Option.some.inj hf; exact ⟨rfl, cells3⟩
  · obtain rfl := Option.some.inj hf; exact ⟨rfl, cells3⟩
  · obtain rfl := Option.some.inj hf; exact ⟨rfl, cells4⟩

/-- A slice of acts that came in, as the walks want it. -/
theorem acts_in {H : Type} {enc : TypeId × Value → H} {W : World} {a : Option Addr} {len cap : Nat} {d : DataW H} {p : List MemPlace}
    (h : DataW.Trod enc Try.prog W 0 (fun _ => true) true 22 (Value.slice a len cap) d p) :
    ∃ l : List Ac, len = l.length ∧ ActsAt W a l := by
  obtain ⟨-, -, V, hV⟩ := open_recs Try.underlying22 under33 (by kernel_rfl) (by rw [size33]; decide) fields33 h
  have each : ∀ i, i < len → ∃ r : Ac, acCells r = [V i 0, V i 1, V i 2, V i 3] ∧ AcW r := by
    intro i hi
    obtain ⟨b, off, -, g⟩ := hV i hi
    exact rec_of (enc := enc) (w := W) (V i) (fun j f hf => (g j f hf).2)
  have inh : Inhabited Ac := ⟨⟨0, 0, 0, false⟩⟩
  obtain ⟨f, hfn⟩ := Deep.choose_lt each
  refine ⟨(List.range len).map f, by simp, ⟨fun i hi => ?_, fun r hr => ?_⟩⟩
  · have hi' : i < len := by simpa using hi
    obtain ⟨b, off, rfl, g⟩ := hV i hi'
    refine ⟨b, off, rfl, fun j v hv => ?_⟩
    rw [size33] at g
    have e : ((List.range len).map f)[i] = f i := by simp
    rw [e, (hfn i hi').1] at hv
    have hj : j < 4 := by
      have := (List.getElem?_eq_some_iff.1 hv).1
      simpa using this
    have hf : ∃ f, (Try.prog.fieldsOf 33)[j]? = some f := ⟨_, Array.getElem?_eq_getElem (by rw [size33]; exact hj)⟩
    obtain ⟨fl, hfl⟩ := hf
    obtain ⟨g1, -⟩ := g j fl hfl
    rw [g1]
    have : j = 0 ∨ j = 1 ∨ j = 2 ∨ j = 3 := by omega
    rcases this with rfl | rfl | rfl | rfl <;> simpa using hv
  · obtain ⟨i, hi, rfl⟩ := List.mem_map.1 hr
    exact (hfn i (by simpa using hi)).2

/-- A slice of ints that came in. -/
theorem ints_in {H : Type} {enc : TypeId × Value → H} {W : World} {a : Option Addr} {len cap : Nat} {d : DataW H} {p : List MemPlace}
    (h : DataW.Trod enc Try.prog W 0 (fun _ => true) true 23 (Value.slice a len cap) d p) :
    ∃ N : List Int, len = N.length ∧ Ints W a N := by
  obtain ⟨fuel, hf⟩ := h
  rcases open_ints Try.underlying23 Try.underlying3 (by kernel_rfl) hf with ⟨hcs, _⟩ | ⟨x, l, c, zs, hcs, _, hl, hm, hz, hx, hcell, hwz⟩
  · simp [Value.cells] at hcs
    obtain ⟨rfl, rfl, rfl⟩ := hcs
    exact ⟨[], rfl, ⟨fun i hi => by simp at hi, fun x hx => by simp at hx⟩⟩
  · simp [Value.cells] at hcs
    obtain ⟨rfl, rfl, rfl⟩ := hcs
    have hz' : zs.length = cap := by simpa using hz
    have hlen : (zs.take len).length = len := by simp; omega
    refine ⟨zs.take len, hlen.symm, ⟨fun i hi => ?_, fun x hx => hwz x (List.mem_of_mem_take hx)⟩⟩
    have hi' : i < zs.length := by omega
    obtain ⟨b, off, rfl, hc⟩ := ints_at hcell (by omega)
    refine ⟨b, off, rfl, ?_⟩
    have e : (zs.take len).getD i 0 = zs.getD i 0 := by
      simp only [List.getD_eq_getElem?_getD]
      rw [List.getElem?_take_of_lt (by omega)]
    rw [e]
    exact hc i hi'

/-- A slice of bools that came in. -/
structure Bools (w : World) (a : Option Addr) (N : List Bool) : Prop where
  at' : ∀ j (h : j < N.length), ∃ b off, a = some ⟨b, off, none⟩ ∧ w.cell? ⟨b, off + j, none⟩ = some (.bool N[j])
theorem Bools.later {w w' : World} {a : Option Addr} {N : List Bool} (h : Bools w a N) (hb : Below w.heap.size w w') : Bools w' a N := by
  refine ⟨fun j hj => ?_⟩
  obtain ⟨b, off, rfl, h1⟩ := h.at' j hj
  exact ⟨b, off, rfl, cell_later hb h1⟩
theorem bools_in {H : Type} {enc : TypeId × Value → H} {W : World} {a : Option Addr} {len cap : Nat} {d : DataW H} {p : List MemPlace}
    (h : DataW.Trod enc Try.prog W 0 (fun _ => true) true 47 (Value.slice a len cap) d p) :
    ∃ N : List Bool, len = N.length ∧ Bools W a N := by
  obtain ⟨fuel, hf⟩ := h
  rcases Deep.open_slice Try.underlying47 hf with ⟨hcs, _⟩ | ⟨x, ln, cp, m, n', D, Pl, hcs, _, hl, _, hmm, hx, hc⟩
  · simp [Value.cells] at hcs
    obtain ⟨rfl, rfl, rfl⟩ := hcs
    exact ⟨[], rfl, ⟨fun i hi => by simp at hi⟩⟩
  · simp [Value.cells] at hcs
    obtain ⟨rfl, rfl, rfl⟩ := hcs
    have hlm : len ≤ m := by rw [hmm]; split <;> omega
    have each : ∀ i, i < m → ∃ q : Bool, W.cell? (x.add i) = some (.bool q) := by
      intro i hi
      obtain ⟨cs', g1, g2⟩ := hc i hi
      rw [cells4] at g1
      obtain ⟨_, hlen, hcell⟩ := World.cells?_some g1
      obtain ⟨F, e0, -⟩ := DataW.trod_bool Try.underlying4 g2
      have e1 := hcell 0 (by omega)
      rw [e0] at e1
      rw [Deep.add_add] at e1
      refine ⟨F, ?_⟩
      simpa using e1
    obtain ⟨f, hf⟩ := Deep.choose_lt each
    refine ⟨(List.range len).map f, by simp, ⟨fun i hi => ?_⟩⟩
    have hi' : i < len := by simpa using hi
    obtain ⟨b, off, spot⟩ := x
    have hsp : spot = none := by
      have h3 := hf 0 (by omega)
      simpa [Addr.add] using World.cell?_spot h3
    subst hsp
    refine ⟨b, off, rfl, ?_⟩
    have h3 := hf i (by omega)
    rw [add_plain] at h3
    simpa using h3
end Go.Proofs.Ytfmgmelgfnppkaa
