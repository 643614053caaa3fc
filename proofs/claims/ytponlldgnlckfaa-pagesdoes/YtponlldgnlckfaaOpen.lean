/-
  What the rows hand a walk: a slice of acts that came in, read as a list; an act, a key by value.
-/
import Derived.Test.YtponlldgnlckfaaWorks
import Derived.Test.YtponlldgnlckfaaRecs
import Derived.Lib.SmallJoins
import Derived.ProofKit
import Derived.OpenShut
import Derived.ChangeOld
import Derived.Deep.DeepHandedRow
import Derived.Deep.MidRow
import Derived.SizedLaws
import Derived.ChangeMaps5
set_option maxRecDepth 100000
namespace Go.Proofs.Ytponlldgnlckfaa
open Go.ChangeShapes Go.WideShapes Go.ChangeAt Go.RowKit

def acCells (r : Ac) : List Value := [.int .i64 r.k, .int .i64 r.id, .int .i64 r.kf, .int .i64 r.ki, .int .i64 r.pl, .int .i64 r.n]
structure ActsAt (w : World) (a : Option Addr) (l : List Ac) : Prop where
  c : ∀ i (h : i < l.length), ∃ b off, a = some ⟨b, off, none⟩ ∧ w.rangeAt b (off + i * 6) (acCells l[i])
  w : ∀ r ∈ l, AcW r
theorem ActsAt.below {w w' : World} {a : Option Addr} {l : List Ac} (h : ActsAt w a l) (hb : Below w.heap.size w w') : ActsAt w' a l := by
  refine ⟨fun i hi => ?_, h.w⟩
  obtain ⟨b, off, rfl, h1⟩ := h.c i hi
  exact ⟨b, off, rfl, fun j v hv => cell_later hb (h1 j v hv)⟩
theorem ActsAt.at {w : World} {a : Option Addr} {l : List Ac} (h : ActsAt w a l) {i : Nat} (hi : i < l.length) : ∃ b off, a = some ⟨b, off, none⟩ ∧ w.cell? ⟨b, off + i * 6, none⟩ = some (.int .i64 l[i].k) ∧ w.cell? ⟨b, off + i * 6 + 1, none⟩ = some (.int .i64 l[i].id) ∧ w.cell? ⟨b, off + i * 6 + 2, none⟩ = some (.int .i64 l[i].kf) ∧ w.cell? ⟨b, off + i * 6 + 3, none⟩ = some (.int .i64 l[i].ki) ∧ w.cell? ⟨b, off + i * 6 + 4, none⟩ = some (.int .i64 l[i].pl) ∧ w.cell? ⟨b, off + i * 6 + 5, none⟩ = some (.int .i64 l[i].n) ∧ AcW l[i] := by
  obtain ⟨b, off, rfl, h1⟩ := h.c i hi
  exact ⟨b, off, rfl, h1 0 _ rfl, h1 1 _ rfl, h1 2 _ rfl, h1 3 _ rfl, h1 4 _ rfl, h1 5 _ rfl, h.w _ (List.getElem_mem hi)⟩
/-- What the acts up to one leave. -/
def dL (l : List Ac) (i : Nat) : List Pg := (l.take i).foldl doL []
theorem dL_zero (l : List Ac) : dL l 0 = [] := rfl
theorem dL_succ (l : List Ac) (i : Nat) (h : i < l.length) : dL l (i + 1) = doL (dL l i) l[i] := by
  unfold dL
  rw [List.take_succ_eq_append_getElem h, List.foldl_append]
  rfl
theorem dL_len (l : List Ac) (i : Nat) (hi : i ≤ l.length) : (dL l i).length ≤ i := by
  induction i with
  | zero => exact Nat.le_refl _
  | succ i ih =>
    rw [dL_succ l i (by omega)]
    have := len_do_le (dL l i) (l[i]'(by omega))
    have := ih (by omega)
    omega
theorem dL_ok (l : List Ac) (i : Nat) (hi : i ≤ l.length) : Ok (1000 * i) (dL l i) := by
  induction i with
  | zero => exact Ok.nil.more (by omega)
  | succ i ih =>
    rw [dL_succ l i (by omega)]
    exact (ok_do (ih (by omega)) (by omega) _).more (by omega)

/-! ### what is kept is no wider than what came in -/
def i64 (z : Int) : Prop := -9223372036854775808 ≤ z ∧ z ≤ 9223372036854775807
theorem wf_of {z : Int} (h : i64 z) : (Lit.int .i64 z).wf = true := WalkArith.wf_i64 h
theorem of_wf {z : Int} (h : (Lit.int .i64 z).wf = true) : i64 z := bounds_i64 h
structure Rg (x : Pg) : Prop where
  kf : i64 x.kf
  ki : i64 x.ki
  at' : i64 x.at'
  ow : i64 x.ow
  pl : i64 x.pl
theorem rg_gone : Rg gone := by refine ⟨?_, ?_, ?_, ?_, ?_⟩ <;> (show _ ∧ _; decide)
def Bd (L : List Pg) : Prop := ∀ i, i < L.length → Rg (pg L i)
theorem Bd.nil : Bd [] := fun _ h => absurd h (Nat.not_lt_zero _)
theorem Bd.get {L : List Pg} (h : Bd L) (id : Int) : Rg (getL L id) := by
  unfold getL
  by_cases hh : has L id = true
  · rw [if_pos hh]
    obtain ⟨k, rfl, hk, -⟩ := has_nat' hh
    exact h k hk
  · rw [if_neg hh]; exact rg_gone
theorem bd_set {L : List Pg} (h : Bd L) {k : Nat} (hk : k < L.length) {x : Pg} (hx : Rg x) : Bd (L.set k x) := by
  intro i hi
  rw [List.length_set] at hi
  rw [pg_set hk]
  by_cases e : i = k
  · rw [if_pos e]; exact hx
  · rw [if_neg e]; exact h i hi
theorem bd_do {L : List Pg} (h : Bd L) (hl : L.length ≤ 1000000) {r : Ac} (hr : AcW r) : Bd (doL L r) := by
  have b1 := of_wf hr.kf
  have b2 := of_wf hr.ki
  have b3 := of_wf hr.n
  have b4 := of_wf hr.pl
  unfold doL
  split
  · unfold makeL
    split
    · exact h
    · intro i hi
      simp at hi
      by_cases e : i < L.length
      · rw [pg_app _ e]; exact h i e
      · have : i = L.length := by omega
        subst this
        rw [pg_last]
        unfold newPg
        unfold i64 at *
        split
        · exact ⟨b1, b2, ⟨by show (_ : Int) ≤ 0; decide, by show (0 : Int) ≤ _; decide⟩, b3, ⟨by show (_ : Int) ≤ 0; decide, by show (0 : Int) ≤ _; decide⟩⟩
        · refine ⟨?_, ?_, ?_, b3, ?_⟩ <;> (show _ ∧ _; simp <;> omega)
  · split
    · unfold putL
      split
      · rename_i he
        obtain ⟨h1, -, -⟩ := put_ok he
        obtain ⟨k, e, hk, hg⟩ := has_nat' h1
        rw [e, setL_nat]
        have := h k hk
        exact bd_set h hk ⟨this.kf, this.ki, b3, this.ow, b4⟩
      · exact h
    · split
      · unfold refL
        split
        · rename_i he
          obtain ⟨h1, -⟩ := ref_ok he
          obtain ⟨k, e, hk, hg⟩ := has_nat' h1
          rw [e, setL_nat]
          have := h k hk
          exact bd_set h hk ⟨this.kf, this.ki, this.at', this.ow, this.pl⟩
        · exact h
      · split
        · unfold dropL
          split
          · rename_i he
            obtain ⟨h1, -⟩ := drop_ok he
            obtain ⟨k, e, hk, hg⟩ := has_nat' h1
            rw [e, setL_nat]
            have := h k hk
            exact bd_set h hk ⟨this.kf, this.ki, this.at', this.ow, this.pl⟩
          · exact h
        · split
          · unfold ownL
            split
            · rename_i h1
              obtain ⟨k, e, hk, hg⟩ := has_nat' h1
              rw [e, setL_nat]
              have := h k hk
              exact bd_set h hk ⟨this.kf, this.ki, this.at', b3, this.pl⟩
            · exact h
          · unfold markL
            split
            · rename_i h1
              obtain ⟨k, e, hk, hg⟩ := has_nat' h1
              rw [e, setL_nat]
              have := h k hk
              exact bd_set h hk ⟨this.kf, this.ki, this.at', this.ow, this.pl⟩
            · exact h
theorem dL_bd (l : List Ac) (hw : ∀ r ∈ l, AcW r) (hl : l.length ≤ 1000000) (i : Nat) (hi : i ≤ l.length) : Bd (dL l i) := by
  induction i with
  | zero => exact Bd.nil
  | succ i ih =>
    rw [dL_succ l i (by omega)]
    exact bd_do (ih (by omega)) (by have := dL_len l i (by omega); omega) (hw _ (List.getElem_mem _))

theorem own : ownKnob Try.prog.godebug = none := by kernel_rfl
theorem laidOut : laidOutB Try.prog = true := by kernel_rfl
theorem cells34 : Try.prog.cellsOf 34 = 6 := by kernel_rfl
theorem cells24 : Try.prog.cellsOf 24 = 2 := by kernel_rfl
theorem cells25 : Try.prog.cellsOf 25 = 1 := by kernel_rfl
theorem cells3 : Try.prog.cellsOf 3 = 1 := by kernel_rfl

theorem act_of {H : Type} {enc : TypeId × Value → H} {w : World} {base : Nat} {spare : Nat → Bool} {held : Bool} {n : Nat} {cs : List Value} {y : DataW H × List MemPlace} (hl : cs.length = 6)
    (h : DataW.trod enc Try.prog w base spare held n 34 cs = some y) : ∃ r : Ac, acCells r = cs ∧ AcW r := by
  obtain ⟨xs, k, hk, hxy, _, hxl, hfl⟩ := DataW.trod_struct Try.underlying34 h
  match cs, hl with
  | [c0, c1, c2, c3, c4, c5], _ =>
    have f0 : DataW.trod enc Try.prog w base spare held k 3 (([c0, c1, c2, c3, c4, c5].drop 0).take (Try.prog.cellsOf 3)) = xs[0]? := hfl 0 _ rfl
    have f1 : DataW.trod enc Try.prog w base spare held k 3 (([c0, c1, c2, c3, c4, c5].drop 1).take (Try.prog.cellsOf 3)) = xs[1]? := hfl 1 _ rfl
    have f2 : DataW.trod enc Try.prog w base spare held k 24 (([c0, c1, c2, c3, c4, c5].drop 2).take (Try.prog.cellsOf 24)) = xs[2]? := hfl 2 _ rfl
    have f3 : DataW.trod enc Try.prog w base spare held k 25 (([c0, c1, c2, c3, c4, c5].drop 4).take (Try.prog.cellsOf 25)) = xs[3]? := hfl 3 _ rfl
    have f4 : DataW.trod enc Try.prog w base spare held k 3 (([c0, c1, c2, c3, c4, c5].drop 5).take (Try.prog.cellsOf 3)) = xs[4]? := hfl 4 _ rfl
    rw [cells3] at f0 f1 f4
    rw [cells24] at f2
    rw [cells25] at f3
    rw [List.getElem?_eq_getElem (by rw [hxl]; decide)] at f0 f1 f2 f3 f4
    simp at f0 f1 f2 f3 f4
    obtain ⟨xs2, k2, hk2, hxy2, _, hxl2, hfl2⟩ := DataW.trod_struct Try.underlying24 f2
    have g0 : DataW.trod enc Try.prog w base spare held k2 3 (([c2, c3].drop 0).take (Try.prog.cellsOf 3)) = xs2[0]? := hfl2 0 _ rfl
    have g1 : DataW.trod enc Try.prog w base spare held k2 3 (([c2, c3].drop 1).take (Try.prog.cellsOf 3)) = xs2[1]? := hfl2 1 _ rfl
    rw [cells3] at g0 g1
    rw [List.getElem?_eq_getElem (by rw [hxl2]; decide)] at g0 g1
    simp at g0 g1
    obtain ⟨K, e0, -, -⟩ := DataW.trod_int Try.underlying3 f0
    obtain ⟨D, e1, -, h1⟩ := DataW.trod_int Try.underlying3 f1
    obtain ⟨F, e2, -, h2⟩ := DataW.trod_int Try.underlying3 g0
    obtain ⟨I, e3, -, h3⟩ := DataW.trod_int Try.underlying3 g1
    obtain ⟨P, e4, -, h4⟩ := DataW.trod_int Try.underlying25 f3
    obtain ⟨N, e5, -, h5⟩ := DataW.trod_int Try.underlying3 f4
    simp at e0 e1 e2 e3 e4 e5
    exact ⟨⟨K, D, F, I, P, N⟩, by rw [e0, e1, e2, e3, e4, e5]; rfl, ⟨h1, h2, h3, h4, h5⟩⟩

/-- A slice of acts that came in, as the walks want it. -/
theorem acts_in {H : Type} {enc : TypeId × Value → H} {W : World} {a : Option Addr} {len cap : Nat} {d : DataW H} {p : List MemPlace}
    (h : DataW.Trod enc Try.prog W 0 (fun _ => true) true 22 (Value.slice a len cap) d p) :
    ∃ l : List Ac, len = l.length ∧ ActsAt W a l := by
  obtain ⟨-, -, V, hV⟩ := open_wide Try.underlying22 cells34 (by decide) h
  have each : ∀ i, i < len → ∃ r : Ac, acCells r = V i ∧ AcW r := by
    intro i hi
    obtain ⟨b, off, -, g1, g2, n, y, g3⟩ := hV i hi
    exact act_of g1 g3
  have inh : Inhabited Ac := ⟨⟨0, 0, 0, 0, 0, 0⟩⟩
  obtain ⟨f, hfn⟩ := Deep.choose_lt each
  refine ⟨(List.range len).map f, by simp, ⟨fun i hi => ?_, fun r hr => ?_⟩⟩
  · have hi' : i < len := by simpa using hi
    obtain ⟨b, off, rfl, g1, g2, -⟩ := hV i hi'
    refine ⟨b, off, rfl, ?_⟩
    have e : ((List.range len).map f)[i] = f i := by simp
    rw [e, (hfn i hi').1]
    exact g2
  · obtain ⟨i, hi, rfl⟩ := List.mem_map.1 hr
    exact (hfn i (by simpa using hi)).2

/-- A key that came in. -/
theorem key_in {H : Type} {enc : TypeId × Value → H} {W : World} {r : Reach} {b0 : Nat} {v : Value} {d : DataW H} {p : List MemPlace} (hv : Value.okWide Try.prog W r b0 24 v)
    (h : DataW.Trod enc Try.prog W 0 (fun _ => true) true 24 v d p) : ∃ f i : Int, v = .agg #[.int .i64 f, .int .i64 i] ∧ (Lit.int .i64 f).wf = true ∧ (Lit.int .i64 i).wf = true := by
  obtain ⟨v0, v1, y0, y1, n, rfl, -, -, g0, g1⟩ := Joins.open_agg2 Try.underlying24 (by kernel_rfl) cells24 hv h
  obtain ⟨F, e0, -, h0⟩ := DataW.trod_int Try.underlying3 g0
  obtain ⟨I, e1, -, h1⟩ := DataW.trod_int Try.underlying3 g1
  simp at e0 e1
  exact ⟨F, I, by rw [e0, e1], h0, h1⟩
/-- An act that came in. -/
theorem act_in {H : Type} {enc : TypeId × Value → H} {W : World} {r : Reach} {b0 : Nat} {v : Value} {d : DataW H} {p : List MemPlace} (hv : Value.okWide Try.prog W r b0 34 v)
    (h : DataW.Trod enc Try.prog W 0 (fun _ => true) true 34 v d p) : ∃ x : Ac, v = .agg #[.int .i64 x.k, .int .i64 x.id, .int .i64 x.kf, .int .i64 x.ki, .int .i64 x.pl, .int .i64 x.n] ∧ AcW x := by
  obtain ⟨cs, rfl, hsz⟩ := okWide_struct Try.underlying34 hv
  rw [cells34] at hsz
  obtain ⟨fuel, hf⟩ := h
  have hcl : (Value.agg cs).cells.toList = cs.toList := rfl
  rw [hcl] at hf
  obtain ⟨x, hx, hw⟩ := act_of (by simpa using hsz) hf
  refine ⟨x, ?_, hw⟩
  have : cs = (acCells x).toArray := by rw [hx]
  rw [this]
  rfl
end Go.Proofs.Ytponlldgnlckfaa
