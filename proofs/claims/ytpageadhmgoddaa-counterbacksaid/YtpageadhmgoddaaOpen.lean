/-
  What the rows hand a walk: a slice of ints; a slice of acts that came in, each with a slice inside, read as lists; whether there are more than is looked at.
-/
import Derived.Test.YtpageadhmgoddaaOwn
import Derived.Test.YtpageadhmgoddaaRecs
import Derived.ProofKit
import Derived.OpenShut
import Derived.ChangeOld
import Derived.Deep.DeepHandedRow
import Derived.SizedLaws
import Derived.ChangeMaps5
namespace Go.Proofs.Ytpageadhmgoddaa
open Go.ChangeShapes Go.WideShapes Go.ChangeAt Go.RowKit

structure Ac where
  k : Int
  a : Option Addr
  cap : Nat
  l : List Int
  g : Int
  n : Int
def acCells (r : Ac) : List Value := [.int .i64 r.k, .slice r.a r.l.length r.cap, .int .i64 r.g, .int .i64 r.n]
def ActsAt (w : World) (a : Option Addr) (l : List Ac) : Prop :=
  l.length ≤ 9223372036854775807 ∧ ∀ i (h : i < l.length), ∃ b off, a = some ⟨b, off, none⟩ ∧ w.rangeAt b (off + i * 4) (acCells l[i]) ∧ Ints w l[i].a l[i].l
theorem ActsAt.below {w w' : World} {a : Option Addr} {l : List Ac} (h : ActsAt w a l) (hb : Below w.heap.size w w') : ActsAt w' a l := by
  refine ⟨h.1, fun i hi => ?_⟩
  obtain ⟨b, off, rfl, h1, h2⟩ := h.2 i hi
  exact ⟨b, off, rfl, fun j v hv => cell_later hb (h1 j v hv), h2.later hb⟩
theorem ActsAt.at {w : World} {a : Option Addr} {l : List Ac} (h : ActsAt w a l) {i : Nat} (hi : i < l.length) : ∃ b off, a = some ⟨b, off, none⟩ ∧ w.cell? ⟨b, off + i * 4, none⟩ = some (.int .i64 l[i].k) ∧ w.cell? ⟨b, off + i * 4 + 1, none⟩ = some (.slice l[i].a l[i].l.length l[i].cap) ∧ w.cell? ⟨b, off + i * 4 + 2, none⟩ = some (.int .i64 l[i].g) ∧ w.cell? ⟨b, off + i * 4 + 3, none⟩ = some (.int .i64 l[i].n) ∧ Ints w l[i].a l[i].l := by
  obtain ⟨b, off, rfl, h1, h2⟩ := h.2 i hi
  exact ⟨b, off, rfl, h1 0 _ rfl, h1 1 _ rfl, h1 2 _ rfl, h1 3 _ rfl, h2⟩

theorem own : ownKnob Try.prog.godebug = none := by kernel_rfl
theorem laidOut : laidOutB Try.prog = true := by kernel_rfl
theorem cells3 : Try.prog.cellsOf 3 = 1 := by kernel_rfl
theorem cells30 : Try.prog.cellsOf 30 = 1 := by kernel_rfl

/-- A slice of ints that came in. -/
theorem slice_of {H : Type} {enc : TypeId × Value → H} {w : World} {base : Nat} {spare : Nat → Bool} {held : Bool} {n : Nat} {v : Value} {y : DataW H × List MemPlace}
    (h : DataW.trod enc Try.prog w base spare held n 30 [v] = some y) : ∃ a cap, ∃ L : List Int, v = .slice a L.length cap ∧ Ints w a L := by
  obtain ⟨d, p⟩ := y
  rcases Deep.open_slice Try.underlying30 h with ⟨hcs, _⟩ | ⟨x, ln, cp, m, n', D, Pl, hcs, _, hl, _, hmm, hx, hc⟩
  · simp at hcs
    exact ⟨none, 0, [], by rw [hcs]; rfl, fun i hi => by simp at hi⟩
  · simp at hcs
    have hlm : ln ≤ m := by rw [hmm]; split <;> omega
    have each : ∀ i, i < m → ∃ q : Int, w.cell? (x.add i) = some (.int .i64 q) := by
      intro i hi
      obtain ⟨cs', g1, g2⟩ := hc i hi
      rw [cells3] at g1
      obtain ⟨_, hlen, hcell⟩ := World.cells?_some g1
      obtain ⟨F, e0, -, -⟩ := DataW.trod_int Try.underlying3 g2
      have e1 := hcell 0 (by omega)
      rw [e0] at e1
      rw [Deep.add_add] at e1
      refine ⟨F, ?_⟩
      simpa using e1
    obtain ⟨f, hf⟩ := Deep.choose_lt each
    refine ⟨some x, cp, (List.range ln).map f, by rw [hcs]; simp, fun i hi => ?_⟩
    have hi' : i < ln := by simpa using hi
    obtain ⟨b, off, spot⟩ := x
    have hsp : spot = none := by
      have h3 := hf 0 (by omega)
      simpa [Addr.add] using World.cell?_spot h3
    subst hsp
    refine ⟨b, off, rfl, ?_⟩
    have h3 := hf i (by omega)
    rw [add_plain] at h3
    simpa using h3
theorem ints_in {H : Type} {enc : TypeId × Value → H} {W : World} {a : Option Addr} {len cap : Nat} {d : DataW H} {p : List MemPlace}
    (h : DataW.Trod enc Try.prog W 0 (fun _ => true) true 30 (Value.slice a len cap) d p) : ∃ l : List Int, len = l.length ∧ Ints W a l := by
  obtain ⟨fuel, hf⟩ := h
  have hf' : DataW.trod enc Try.prog W 0 (fun _ => true) true fuel 30 [Value.slice a len cap] = some (d, p) := hf
  obtain ⟨a', cap', L, e, hI⟩ := slice_of hf'
  injection e with e1 e2 e3
  subst e1
  exact ⟨L, e2, hI⟩

theorem rec_of {H : Type} {enc : TypeId × Value → H} {w : World} {base : Nat} {spare : Nat → Bool} {held : Bool} (V : Nat → Value)
    (hV : ∀ (j : Nat) (f : Field), (Try.prog.fieldsOf 32)[j]? = some f → ∃ n y q, DataW.trod enc Try.prog w base spare held n f.type [V j] = some (y, q)) :
    ∃ r : Ac, acCells r = [V 0, V 1, V 2, V 3] ∧ Ints w r.a r.l := by
  obtain ⟨n0, y0, q0, g0⟩ := hV 0 _ rfl
  obtain ⟨n1, y1, q1, g1⟩ := hV 1 _ rfl
  obtain ⟨n2, y2, q2, g2⟩ := hV 2 _ rfl
  obtain ⟨n3, y3, q3, g3⟩ := hV 3 _ rfl
  obtain ⟨K, e0, -, -⟩ := DataW.trod_int Try.underlying3 g0
  obtain ⟨a, cap, L, e1, hI⟩ := slice_of g1
  obtain ⟨G, e2, -, -⟩ := DataW.trod_int Try.underlying3 g2
  obtain ⟨M, e3, -, -⟩ := DataW.trod_int Try.underlying3 g3
  simp at e0 e2 e3
  exact ⟨⟨K, a, cap, L, G, M⟩, by rw [e0, e1, e2, e3]; rfl, hI⟩

theorem under32 : Try.prog.underlying 32 = some (.struct (Try.prog.fieldsOf 32)) := by kernel_rfl
theorem fields32 : ∀ (j : Nat) (f : Field), (Try.prog.fieldsOf 32)[j]? = some f → f.offset = j ∧ Try.prog.cellsOf f.type = 1 := by
  intro j f hf
  have hj : j < (Try.prog.fieldsOf 32).size := by
    by_cases hj : j < (Try.prog.fieldsOf 32).size
    · exact hj
    · rw [Array.getElem?_eq_none (by omega)] at hf; cases hf
  have h5 : (Try.prog.fieldsOf 32).size = 4 := by kernel_rfl
  rw [h5] at hj
  have : j = 0 ∨ j = 1 ∨ j = 2 ∨ j = 3 := by omega
  rcases this with rfl | rfl | rfl | rfl
  · obtain rfl := Option.some.inj hf; exact ⟨rfl, cells3⟩
  · obtain rfl := Option.some.inj hf; exact ⟨rfl, cells30⟩
  · obtain rfl := Option.some.inj hf; exact ⟨rfl, cells3⟩
  · obtain rfl := Option.some.inj hf; exact ⟨rfl, cells3⟩

/-- A slice of acts that came in, as the walks want it. -/
theorem acts_in {H : Type} {enc : TypeId × Value → H} {W : World} {a : Option Addr} {len cap : Nat} {d : DataW H} {p : List MemPlace}
    (h : DataW.Trod enc Try.prog W 0 (fun _ => true) true 22 (Value.slice a len cap) d p) :
    ∃ l : List Ac, len = l.length ∧ ActsAt W a l := by
  have h5 : (Try.prog.fieldsOf 32).size = 4 := by kernel_rfl
  obtain ⟨-, -, V, hV⟩ := open_recs Try.underlying22 under32 (by kernel_rfl) (by rw [h5]; decide) fields32 h
  have each : ∀ i, i < len → ∃ r : Ac, acCells r = [V i 0, V i 1, V i 2, V i 3] ∧ Ints W r.a r.l := by
    intro i hi
    obtain ⟨b, off, -, g⟩ := hV i hi
    exact rec_of (enc := enc) (w := W) (V i) (fun j f hf => (g j f hf).2)
  have inh : Inhabited Ac := ⟨⟨0, none, 0, [], 0, 0⟩⟩
  obtain ⟨f, hfn⟩ := Deep.choose_lt each
  have hlen : len ≤ 9223372036854775807 := by
    obtain ⟨fuel, hf⟩ := h
    rcases Deep.open_slice Try.underlying22 hf with ⟨hcs, _⟩ | ⟨x, ln, cp, m, n, D, Pl, hcs, _, hl, hm, hmm, hx, hc⟩
    · simp [Value.cells] at hcs
      omega
    · simp [Value.cells] at hcs
      unfold maxLen at hm
      omega
  refine ⟨(List.range len).map f, by simp, by simpa using hlen, fun i hi => ?_⟩
  have hi' : i < len := by simpa using hi
  obtain ⟨b, off, rfl, g⟩ := hV i hi'
  have e : ((List.range len).map f)[i] = f i := by simp
  refine ⟨b, off, rfl, fun j v hv => ?_, by rw [e]; exact (hfn i hi').2⟩
  rw [h5] at g
  rw [e, (hfn i hi').1] at hv
  have hj : j < 4 := by
    have := (List.getElem?_eq_some_iff.1 hv).1
    simpa using this
  have hf : ∃ f, (Try.prog.fieldsOf 32)[j]? = some f := ⟨_, Array.getElem?_eq_getElem (by rw [h5]; exact hj)⟩
  obtain ⟨fl, hfl⟩ := hf
  obtain ⟨g1, -⟩ := g j fl hfl
  rw [g1]
  have : j = 0 ∨ j = 1 ∨ j = 2 ∨ j = 3 := by omega
  rcases this with rfl | rfl | rfl | rfl <;> simpa using hv

/-- Is there more than is looked at? -/
def ov (l : List Ac) : Bool := l.any (fun r => decide (80 < r.l.length)) || decide (80 < l.length)
theorem ov_chain {l : List Ac} {i : Nat} (hi : i < l.length) (h : 80 < l[i].l.length) : ov l = true := by
  simp only [ov, Bool.or_eq_true, List.any_eq_true, decide_eq_true_eq]
  exact Or.inl ⟨l[i], List.getElem_mem hi, h⟩
theorem ov_no {l : List Ac} (h : ov l = false) : l.length ≤ 80 ∧ ∀ i (hi : i < l.length), l[i].l.length ≤ 80 := by
  simp only [ov, Bool.or_eq_false_iff, List.any_eq_false, decide_eq_true_eq, decide_eq_false_iff_not] at h
  exact ⟨by omega, fun i hi => by have := h.1 l[i] (List.getElem_mem hi); omega⟩
theorem ov_short {l : List Ac} (h : ∀ i (hi : i < l.length), l[i].l.length ≤ 80) : ov l = decide (80 < l.length) := by
  have : (l.any fun r => decide (80 < r.l.length)) = false := by
    simp only [List.any_eq_false, decide_eq_true_eq]
    intro r hr
    obtain ⟨i, hi, rfl⟩ := List.getElem_of_mem hr
    have := h i hi
    omega
  simp only [ov, this, Bool.false_or]

set_option maxHeartbeats 4000000 in
theorem over_any (a : Option Addr) (cap : Nat) (l : List Ac) (w : World) (hc : ActsAt w a l) :
    Calls Try.prog 10 #[.slice a l.length cap] w fun e w' => e = .returned (.bool (ov l)) ∧ w' = w := by
  have hl := hc.1
  go_enter Try.func10, Try.ntmps10
  go_wp2_with fail
  go_loopw [3] (fun s3 wr => ∃ i : Nat, i ≤ l.length ∧ s3 = .int .i64 i ∧ (∀ j (hj : j < l.length), j < i → l[j].l.length ≤ 80) ∧ wr = w) (fun s3 _ => l.length - (intOf s3).toNat)
  case atStart => exact ⟨0, by omega, rfl, fun j hj hj0 => by omega, rfl⟩
  case round =>
    obtain ⟨i, hi, rfl, hs, rfl⟩ := hrel
    have HS : Hid (∀ j (hj : j < l.length), j < i → l[j].l.length ≤ 80) := hs
    clear hs
    by_cases hlt : i < l.length
    · have hil : decide ((i : Int) < (l.length : Int)) = true := by simp; omega
      obtain ⟨b, off, rfl, -, k1, -, -, -⟩ := hc.at hlt
      obtain ⟨A, hA⟩ : ∃ A, A = l[i].a := ⟨_, rfl⟩
      obtain ⟨M, hM⟩ : ∃ M, M = l[i].l.length := ⟨_, rfl⟩
      obtain ⟨C, hC⟩ : ∃ C, C = l[i].cap := ⟨_, rfl⟩
      rw [← hA, ← hM, ← hC] at k1
      have HM : Hid (M = l[i].l.length) := hM
      clear hA hM hC hc
      by_cases hm : 80 < M
      · have hd : decide ((80 : Int) < (M : Int)) = true := by simp; omega
        have HO : Hid (ov l = true) := ov_chain hlt (by rw [← HM.out]; exact hm)
        go_wp2_with fail
        go_ret
        exact ⟨by rw [HO.out]; rfl, rfl⟩
      · have hd : decide ((80 : Int) < (M : Int)) = false := by simp; omega
        go_wp2_with fail
        refine ⟨⟨i + 1, by omega, by go_num, fun j hj hji => ?_, trivial⟩, by simp [intOf]; omega⟩
        by_cases e : j = i
        · subst e; rw [← HM.out]; omega
        · exact HS.out j hj (by omega)
    · obtain rfl : i = l.length := by omega
      have hil : decide ((l.length : Int) < (l.length : Int)) = false := by simp
      have HO : Hid (ov l = decide ((80 : Int) < (l.length : Int))) := by
        show _ = _
        rw [ov_short fun j hj => HS.out j hj hj]
        congr 1
        apply propext
        omega
      clear hc
      go_wp2_with fail
      go_ret
      exact ⟨by rw [HO.out]; rfl, rfl⟩
end Go.Proofs.Ytpageadhmgoddaa
