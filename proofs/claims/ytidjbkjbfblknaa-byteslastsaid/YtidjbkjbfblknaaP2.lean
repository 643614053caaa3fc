/-
  Arrays of bytes: compared, copied; the contract of bytes.lay.
-/
import Derived.Test.YtidjbkjbfblknaaP1
import Derived.Deep.RegionLaw
import Derived.Deep.CutBlock
import Derived.Deep.DeepCutAuto
namespace Go.Proofs.Ytidjbkjbfblknaa
open Go.RowKit

theorem but_setRow (w : World) (g : Nat) (cs : Array Value) : But g w (w.setRow g cs) := ⟨rfl, rfl, rfl, by simp [World.setRow], fun k hk => setRow_other w g k cs hk⟩

/-- 'copy(dst, src)' into a row that is known whole, as one step of a region that draws its order. -/
theorem step_copy_but {P : Program} {ops : Array Oper} {o : Oper} {a : Act} {w : World} {K : Act → World → Prop} {Q : Exit → Act → World → Prop} {E : Prop} (hgd : o.guard = none) (d s : Operand) (dT sT : TypeId)
    (ho : o.op = .call { callee := .builtin .copy, args := #[d, s], argTypes := #[dT, sT] }) (elem : TypeId) (hu : P.underlying dT = some (.slice elem)) (hsz : (P.info? elem).map (·.size) = some 1)
    (g off dLen dCap : Nat) (ad : Addr) (sLen sCap : Nat) (hd : a.eval d = .slice (some ⟨g, off, none⟩) dLen dCap) (hs : a.eval s = .slice (some ad) sLen sCap)
    (cur : List Value) (t : TypeId) (hg : RowAt w g t cur) (cs : List Value) (hn : cs.length = Nat.min sLen dLen)
    (hsrc : ∀ j v, cs[j]? = some v → w.cell? (ad.add j) = some v) (hfit : off + cs.length ≤ cur.length) (h1 : ∀ v ∈ cs, v.oneCell' = true)
    (h : ∀ w', Hid (RowAt w' g t (splice cur off cs)) → But g w w' → K (a.put o.dst (goInt cs.length)) w') :
    if Region.wanted o (yielded ops a.tmps) = true then Oper.wp P o a w K Q else E := by
  have hw : Region.wanted o (yielded ops a.tmps) = true := by simp [Region.wanted, hgd]
  rw [if_pos hw]
  have hrun := run_copy_row (P := P) w dT sT o.type elem g off dLen dCap ad sLen sCap cur.toArray t cs hu hsz hg hn hsrc (by simpa using hfit) h1
  unfold Oper.wp
  simp [execOp, ho, resolve, invoke, builtin, hd, hs, hrun, Result.andThen]
  exact h _ (show _ = _ by simpa [splice] using setRow_heap w g _ _ t _ hg) (but_setRow _ _ _)

/-- 'copy(dst, text)', text a string, into a row that is known whole. -/
theorem wpList_copy_text {P : Program} {w : World} {ops : Array Oper} {rest : List Oper} {o : Oper} {a : Act} {Q : Exit → Act → World → Prop} (hgd : o.guard = none) (d s : Operand) (dT sT : TypeId)
    (ho : o.op = .call { callee := .builtin .copy, args := #[d, s], argTypes := #[dT, sT] }) (elem : TypeId) (hu : P.underlying dT = some (.slice elem)) (hsz : (P.info? elem).map (·.size) = some 1)
    (g off dLen dCap : Nat) (T : List UInt8) (hd : a.eval d = .slice (some ⟨g, off, none⟩) dLen dCap) (hs : a.eval s = .string ⟨T.toArray⟩) (hTl : T.length = dLen)
    (cur : List Value) (t : TypeId) (hg : RowAt w g t cur) (hfit : off + T.length ≤ cur.length)
    (h : ∀ w', Hid (RowAt w' g t (splice cur off (bc T))) → But g w w' → wpList P ops Q rest (a.put o.dst (goInt T.length)) w') :
    wpList P ops Q (o :: rest) a w := by
  refine wpList_plain hgd fun K hK => ?_
  have hrun : (Builtin.copy_ #[dT, sT] o.type #[.slice (some ⟨g, off, none⟩) dLen dCap, .string ⟨T.toArray⟩]).run P w =
      .ok (goInt T.length) (w.setRow g (cur.take off ++ bc T ++ cur.drop (off + (bc T).length)).toArray) := by
    have hst := run_storeCells_at P g off t (bc T) 0 cur.toArray w hg (by simpa [bc] using hfit) (bc_one T)
    have hex : ((⟨T.toArray⟩ : ByteArray).extract 0 dLen).data.map (fun b => Value.int .u8 (b.toNat : Int)) = (bc T).toArray := by
      subst hTl
      simp [ByteArray.data_extract, bc]
      intro a _
      rfl
    have hsize : (⟨T.toArray⟩ : ByteArray).size = T.length := by simp [ByteArray.size]
    cases hq : P.info? elem with
    | none => simp [hq] at hsz
    | some i =>
      have hmin : Nat.min dLen dLen = dLen := Nat.min_self _
      have hst' : (storeCells ⟨g, off, none⟩ (bc T)).run P w = .ok () (w.setRow g (cur.take off ++ bc T ++ cur.drop (off + (bc T).length)).toArray) := by simpa using hst
      simp only [Builtin.copy_, List.getElem?_toArray, List.getElem?_cons_zero, List.getElem?_cons_succ, Sem.run_bind, run_underlying hu, Builtin.lenOf, Builtin.firstCells, sizeOf, typeInfo, run_program, hq, Sem.run_pure, Result.andThen_ok, hsize, hmin, hex, hst', hTl]
  unfold Oper.wp
  simp [execOp, ho, resolve, invoke, builtin, hd, hs, hrun, Result.andThen]
  refine hK _ _ ?_
  have := h _ (show _ = _ by simpa [splice] using setRow_heap w g _ _ t _ hg) (but_setRow _ _ _)
  exact this

theorem run_items {P : Program} (w : World) (e : TypeId) (k : IntKind) (he : P.underlying e = some (.int k)) (hc : P.cellsOf e = 1) (d : Nat) (A T : List UInt8) : ∀ (is : List Nat), (∀ i ∈ is, i < A.length ∧ i < T.length) →
    (Op.eqItems (d + 1) e (P.cellsOf e) (bc A).toArray (bc T).toArray is).run P w = .ok (is.all fun i => A.getD i 0 == T.getD i 0) w
  | [], _ => by simp [Op.eqItems]
  | i :: is, h => by
    have hp : P.plainKey e = true := by simp [Program.plainKey, he]
    obtain ⟨h1, h2⟩ := h i (by simp)
    have p1 := run_part_plain (P := P) w hp (xs := (bc A).toArray) (off := i * P.cellsOf e) (v := .int .u8 (A[i].toNat : Int)) (by rw [hc]; simpa using bc_get A i h1)
    have p2 := run_part_plain (P := P) w hp (xs := (bc T).toArray) (off := i * P.cellsOf e) (v := .int .u8 (T[i].toNat : Int)) (by rw [hc]; simpa using bc_get T i h2)
    have p3 := run_equalIn_int (P := P) w d e .u8 k (A[i].toNat : Int) (T[i].toNat : Int) he
    have ih := run_items w e k he hc d A T is (fun j hj => h j (by simp [hj]))
    have hb : (((A[i].toNat : Int)) == (T[i].toNat : Int)) = (A.getD i 0 == T.getD i 0) := by
      simp only [List.getD_eq_getElem?_getD, List.getElem?_eq_getElem h1, List.getElem?_eq_getElem h2, Option.getD_some]
      rw [Bool.eq_iff_iff]
      simp only [beq_iff_eq]
      exact ⟨fun h => UInt8.toNat_inj.1 (by omega), fun h => by rw [h]⟩
    simp only [Op.eqItems, Sem.run_bind, p1, p2, p3, Result.andThen_ok, List.all_cons, hb]
    cases hq : (A.getD i 0 == T.getD i 0)
    · simp
    · simpa using ih

theorem all_range (A T : List UInt8) (m : Nat) (hA : A.length = m) (hT : T.length = m) : ((List.range m).all fun i => A.getD i 0 == T.getD i 0) = (A == T) := by
  rw [Bool.eq_iff_iff]
  simp only [List.all_eq_true, List.mem_range, beq_iff_eq]
  constructor
  · intro h
    apply List.ext_getElem (by omega)
    intro i h1 h2
    have := h i (by omega)
    simpa [List.getD_eq_getElem?_getD, h1, h2] using this
  · rintro rfl i _
    rfl

theorem info5 : ∃ i, Try.prog.info? 5 = some i ∧ i.size = 1 := ⟨_, rfl, rfl⟩
theorem cells5 : Try.prog.cellsOf 5 = 1 := by kernel_rfl

theorem eq53 (w : World) (A T : List UInt8) (hA : A.length = 16) (hT : T.length = 16) :
    (Op.equalIn 10000 53 (.agg (bc A).toArray) (.agg (bc T).toArray)).run Try.prog w = .ok (A == T) w := by
  obtain ⟨i, hi, -⟩ := info5
  rw [run_equalIn_array (P := Try.prog) w 9999 (t := 53) (e := 5) (n := 16) (bc A).toArray (bc T).toArray Try.underlying53 hi]
  rw [run_items w 5 .u8 Try.underlying5 cells5 9998 A T (List.range 16) (fun i hi => by simp at hi; omega), all_range A T 16 hA hT]
end Go.Proofs.Ytidjbkjbfblknaa
