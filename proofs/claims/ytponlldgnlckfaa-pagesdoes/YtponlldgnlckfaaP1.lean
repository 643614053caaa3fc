/-
  Maps told by what they have under each key: look-up, store and delete.
-/
import Derived.Test.YtponlldgnlckfaaTb
import Derived.Maps.OwnSet
import Derived.DeepKeys4
import Derived.Laws.OwnMore
set_option maxRecDepth 100000
namespace Go.Proofs.Ytponlldgnlckfaa
open Go.RowKit

/-- How an element is read here: as itself. -/
def asIs (v : Value) : Option (DataW Value × List MemPlace) := some (.held v, [])
theorem own_fit {P : Program} {k : TypeId} {R : Value → Option (DataW Value × List MemPlace)} {w : World} {b n n' : Nat} {D : DataW Value} (h : w.ownsMap P k R b n D) (hs : Maps.size D ≤ n') : w.ownsMap P k R b n' D := by
  obtain ⟨es, clock, hb, F, hs', rfl⟩ := h
  have e1 : Maps.size (DataW.map ((es.toList.map (Go.WideElems.rg P k R)).foldr DataW.insert [])) = es.size := by simp [Maps.size, length_sorted]
  exact ⟨es, clock, hb, F, by omega, rfl⟩
theorem ownsMap_block {P : Program} {k : TypeId} {R : Value → Option (DataW Value × List MemPlace)} {w w' : World} {m n : Nat} {D : DataW Value} (h : w.ownsMap P k R m n D) (hb : w'.heap[m]? = w.heap[m]?) : w'.ownsMap P k R m n D := by
  obtain ⟨es, clock, h1, h2⟩ := h
  exact ⟨es, clock, hb.trans h1, h2⟩
theorem own_not_row {P : Program} {k : TypeId} {R : Value → Option (DataW Value × List MemPlace)} {w : World} {m n b : Nat} {D : DataW Value} {t : TypeId} {vs : List Value} (h : w.ownsMap P k R m n D) (hb : RowAt w b t vs) : b ≠ m := by
  rintro rfl
  obtain ⟨es, clock, h1, _⟩ := h
  unfold RowAt at hb
  rw [hb] at h1
  cases h1

/-! ### keys -/
theorem laidM : laidOutB Try.prog = true := by kernel_rfl
theorem row24 : 24 < Try.prog.types.size := of_decide_eq_true (by kernel_rfl)
theorem row73 : 73 < Try.prog.types.size := of_decide_eq_true (by kernel_rfl)
theorem keyed3 : Maps.Keyed Try.prog 3 := Maps.int_keyed Try.underlying3
theorem keyed24 : Maps.Keyed Try.prog 24 := Maps.Keyed.of_law (deep_law_laid laidM (m := 2) (by omega) row24 (by kernel_rfl) (by kernel_rfl))
theorem keyed73 : Maps.Keyed Try.prog 73 := Maps.Keyed.of_law (deep_law_laid laidM (m := 2) (by omega) row73 (by kernel_rfl) (by kernel_rfl))
def mkI (i : Int) : Value := .int .i64 i
def mkK (p : Int × Int) : Value := kv p.1 p.2
theorem mkI_inj {x y : Int} (h : mkI x = mkI y) : x = y := by simpa [mkI] using h
theorem mkK_inj {x y : Int × Int} (h : mkK x = mkK y) : x = y := by
  have : x.1 = y.1 ∧ x.2 = y.2 := by simpa [mkK, kv] using h
  exact Prod.ext this.1 this.2
theorem cellsM3 : Try.prog.cellsOf 3 = 1 := by kernel_rfl
theorem cellsM25 : Try.prog.cellsOf 25 = 1 := by kernel_rfl
theorem cellsM24 : Try.prog.cellsOf 24 = 2 := by kernel_rfl
theorem cellsM73 : Try.prog.cellsOf 73 = 2 := by kernel_rfl
theorem ktype24 : Try.prog.keyType 24 = true := by kernel_rfl
theorem ktype73 : Try.prog.keyType 73 = true := by kernel_rfl
theorem keyOf_pair {P : Program} {t : TypeId} {a b : Field} (ua : P.underlying a.type = some (.int .i64)) (ub : P.underlying b.type = some (.int .i64)) (ht : P.underlying t = some (.struct #[a, b])) (oa : a.offset = 0) (ob : b.offset = 1)
    (na : (a.name != "_") = true) (nb : (b.name != "_") = true) (ca : P.cellsOf a.type = 1) (cb : P.cellsOf b.type = 1) (ct : P.cellsOf t = 2) (kt : P.keyType t = true) (hs : 0 < P.types.size) {f i : Int} (hf : (Lit.int .i64 f).wf = true) (hi : (Lit.int .i64 i).wf = true) :
    keyOf P t (kv f i) = some (.string (keyBytes [.int .i64 f, .int .i64 i])) := by
  obtain ⟨n, hn⟩ : ∃ n, P.types.size = n + 1 := ⟨P.types.size - 1, by omega⟩
  unfold keyOf kv
  rw [ht]
  simp [kt, Value.formed, ht, ct, hn, Program.keyLits, ua, ub, Value.cells, ca, cb, hf, hi, oa, ob, na, nb]
theorem key24 {x : Int × Int} (hf : (Lit.int .i64 x.1).wf = true) (hi : (Lit.int .i64 x.2).wf = true) : ∃ kl, keyOf Try.prog 24 (mkK x) = some kl :=
  ⟨_, keyOf_pair Try.underlying3 Try.underlying3 Try.underlying24 rfl rfl rfl rfl cellsM3 cellsM3 cellsM24 ktype24 (Nat.lt_of_le_of_lt (Nat.zero_le _) row24) hf hi⟩
theorem key73 {x : Int × Int} (hf : (Lit.int .i64 x.1).wf = true) (hi : (Lit.int .i64 x.2).wf = true) : ∃ kl, keyOf Try.prog 73 (mkK x) = some kl :=
  ⟨_, keyOf_pair Try.underlying25 Try.underlying3 Try.underlying73 rfl rfl rfl rfl cellsM25 cellsM3 cellsM73 ktype73 (Nat.lt_of_le_of_lt (Nat.zero_le _) row24) hf hi⟩
theorem keyI {i : Int} (h : (Lit.int .i64 i).wf = true) : ∃ kl, keyOf Try.prog 3 (mkI i) = some kl := ⟨_, Maps.keyOf_int_mk Try.underlying3 h⟩
theorem zero45 (w : World) : (zeroValue 45).run Try.prog w = .ok (pv gone) w := by kernel_rfl
theorem zero3 (w : World) : (zeroValue 3).run Try.prog w = .ok (.int .i64 0) w := by kernel_rfl

/-! ### the map -/
section
variable {ι : Type} {kt mt et : TypeId} {mk : ι → Value} {w w' : World} {m n : Nat} {G : ι → Option Value}
/-- What the map reads as. -/
def Rd (kt : TypeId) (mk : ι → Value) (D : DataW Value) (G : ι → Option Value) : Prop :=
  ∀ x kl, keyOf Try.prog kt (mk x) = some kl → (G x = none → Maps.has D kl = false) ∧ ∀ v, G x = some v → Maps.has D kl = true ∧ ∀ z, D.atKey kl z = .held v
/-- Block m is the map of what G has, n in all. -/
def MapG (kt : TypeId) (mk : ι → Value) (w : World) (m n : Nat) (G : ι → Option Value) : Prop := ∃ D : DataW Value, w.ownsMap Try.prog kt asIs m n D ∧ Maps.size D = n ∧ Rd kt mk D G
theorem MapG.block (h : MapG kt mk w m n G) (hb : w'.heap[m]? = w.heap[m]?) : MapG kt mk w' m n G := by
  obtain ⟨D, h1, h2⟩ := h
  exact ⟨D, ownsMap_block h1 hb, h2⟩
theorem MapG.lt (h : MapG kt mk w m n G) : m < w.heap.size := by
  obtain ⟨D, h1, h2⟩ := h
  exact h1.lt
theorem MapG.below (h : MapG kt mk w m n G) (hb : Below w.heap.size w w') : MapG kt mk w' m n G := h.block (hb.block m h.lt)
theorem MapG.new (kt : TypeId) (mk : ι → Value) (w : World) : MapG kt mk (w.alloc (.map #[] 0)) w.heap.size 0 fun _ => none :=
  ⟨.map [], World.ownsMap_made _ _ _ _, rfl, fun _ _ _ => ⟨fun _ => rfl, fun _ h => by cases h⟩⟩
theorem MapG.not_row (h : MapG kt mk w m n G) {b : Nat} {t : TypeId} {vs : List Value} (hb : RowAt w b t vs) : b ≠ m := by
  obtain ⟨D, h1, _⟩ := h
  exact own_not_row h1 hb
theorem MapG.dob (h : MapG kt mk w m n G) {o : Obj} (ho : w.heap[m]? = some o) : dob o = false := by
  obtain ⟨D, ⟨es, clock, h1, _⟩, _⟩ := h
  rw [ho] at h1
  injection h1 with h1
  rw [h1]; rfl
theorem MapG.congr (h : MapG kt mk w m n G) {n' : Nat} {G' : ι → Option Value} (hn : n = n') (hG : ∀ x, G x = G' x) : MapG kt mk w m n' G' := by
  subst hn
  obtain rfl : G = G' := funext hG
  exact h
/-- What a look-up answers. -/
theorem MapG.look (h : MapG kt mk w m n G) (hk : Maps.Keyed Try.prog kt) (hu : Try.prog.underlying mt = some (.map kt et)) {z : Value} (hz : ∀ w, (zeroValue et).run Try.prog w = .ok z w) {x : ι} (hx : ∃ kl, keyOf Try.prog kt (mk x) = some kl) :
    (Instr.lookup mt (.map (some m)) (mk x) true).run Try.prog w = .ok (.tuple #[(G x).getD z, .bool (G x).isSome]) w := by
  obtain ⟨D, h1, -, h2⟩ := h
  obtain ⟨kl, hkey⟩ := hx
  obtain ⟨v, ps, hrun, hv⟩ := h1.look_ok hk hu (hz w) (zd := .held z) (zp := []) rfl hkey
  obtain ⟨g1, g2⟩ := h2 x kl hkey
  rw [hrun]
  simp only [asIs, Option.some.injEq, Prod.mk.injEq] at hv
  cases hl : G x with
  | none =>
    have e1 := g1 hl
    have e2 := hv.1
    rw [Maps.atKey_of_not_has e1] at e2
    injection e2 with e2
    rw [e1, e2]
    simp
  | some u =>
    obtain ⟨e1, e3⟩ := g2 u hl
    have e2 := hv.1
    rw [e3] at e2
    injection e2 with e2
    rw [e1, e2]
    simp
theorem MapG.store [DecidableEq ι] (h : MapG kt mk w m n G) (hk : Maps.Keyed Try.prog kt) (hu : Try.prog.underlying mt = some (.map kt et)) (inj : ∀ {x y : ι}, mk x = mk y → x = y) {x : ι} (hx : ∃ kl, keyOf Try.prog kt (mk x) = some kl) (hn : n < 1000000) (v : Value) :
    ∃ w', (Instr.mapUpdate mt (.map (some m)) (mk x) v).run Try.prog w = .ok () w' ∧ MapG kt mk w' m (if (G x).isSome then n else n + 1) (fun y => if y = x then some v else G y) ∧ But m w w' := by
  obtain ⟨D, h1, h0, h2⟩ := h
  obtain ⟨kl, hkey⟩ := hx
  obtain ⟨w', hrun, r1, r2⟩ := h1.store hk hu (by unfold maxLen; omega) hkey (show asIs v = some (.held v, []) from rfl)
  have hsz : Maps.size (D.put kl (.held v)) = if (G x).isSome then n else n + 1 := by
    rw [Maps.size_put (h1.tidy hk), h0]
    obtain ⟨g1, g2⟩ := h2 x kl hkey
    cases hl : G x with
    | none => rw [g1 hl]; simp
    | some u => rw [(g2 u hl).1]; simp
  refine ⟨w', hrun, ⟨_, own_fit r1 (Nat.le_of_eq hsz), hsz, fun y kl' hkl => ?_⟩, ?_⟩
  · by_cases he : y = x
    · subst he
      rw [hkey] at hkl
      obtain rfl := Option.some.inj hkl
      show (((if y = y then some v else G y) = none → _) ∧ ∀ u, (if y = y then some v else G y) = some u → _)
      rw [if_pos rfl]
      refine ⟨(fun h => by cases h), fun u hu => ?_⟩
      obtain rfl := Option.some.inj hu
      exact ⟨Maps.has_put_same h1.isMap (hk.key hkey) _, fun z => Maps.atKey_put_same h1.isMap (hk.key hkey) _ _⟩
    · have hne : kl' ≠ kl := by
        rintro rfl
        exact he (inj (hk.inj hkl hkey))
      show (((if y = x then some v else G y) = none → _) ∧ ∀ u, (if y = x then some v else G y) = some u → _)
      rw [if_neg he, Maps.has_put_other hne]
      obtain ⟨g1, g2⟩ := h2 y kl' hkl
      refine ⟨g1, fun u hu => ⟨(g2 u hu).1, fun z => ?_⟩⟩
      rw [Maps.atKey_put_other hne]
      exact (g2 u hu).2 z
  · clear hrun r1
    obtain ⟨es, clock, es', clock', hb, rfl⟩ := r2
    exact ⟨rfl, rfl, rfl, by simp [ChangeMaps.setBlock], fun k hk => ChangeMaps.heap_setBlock_other hb _ hk⟩
theorem MapG.drop [DecidableEq ι] (h : MapG kt mk w m n G) (hk : Maps.Keyed Try.prog kt) (hu : Try.prog.underlying mt = some (.map kt et)) (inj : ∀ {x y : ι}, mk x = mk y → x = y) {x : ι} (hx : ∃ kl, keyOf Try.prog kt (mk x) = some kl) (ty : TypeId) :
    ∃ w', (Builtin.delete_ #[mt, kt] ty #[.map (some m), mk x]).run Try.prog w = .ok (.tuple #[]) w' ∧ MapG kt mk w' m (if (G x).isSome then n - 1 else n) (fun y => if y = x then none else G y) ∧ But m w w' := by
  obtain ⟨D, h1, h0, h2⟩ := h
  obtain ⟨kl, hkey⟩ := hx
  obtain ⟨w', hrun, r1, r2⟩ := h1.drop hk hu hkey ty
  have hsz : Maps.size (D.del kl) = if (G x).isSome then n - 1 else n := by
    have e1 := Maps.size_del (k := kl) (h1.tidy hk)
    obtain ⟨g1, g2⟩ := h2 x kl hkey
    cases hl : G x with
    | none => rw [g1 hl] at e1; simp at e1 ⊢; omega
    | some u => rw [(g2 u hl).1] at e1; simp at e1 ⊢; omega
  refine ⟨w', hrun, ⟨_, own_fit r1 (Nat.le_of_eq hsz), hsz, fun y kl' hkl => ?_⟩, ?_⟩
  · by_cases he : y = x
    · subst he
      rw [hkey] at hkl
      obtain rfl := Option.some.inj hkl
      show (((if y = y then none else G y) = none → _) ∧ ∀ u, (if y = y then none else G y) = some u → _)
      rw [if_pos rfl]
      exact ⟨fun _ => Maps.has_del_same, fun u hu => by cases hu⟩
    · have hne : kl' ≠ kl := by
        rintro rfl
        exact he (inj (hk.inj hkl hkey))
      show (((if y = x then none else G y) = none → _) ∧ ∀ u, (if y = x then none else G y) = some u → _)
      rw [if_neg he, Maps.has_del_other hne]
      obtain ⟨g1, g2⟩ := h2 y kl' hkl
      refine ⟨g1, fun u hu => ⟨(g2 u hu).1, fun z => ?_⟩⟩
      rw [Maps.atKey_del_other hne]
      exact (g2 u hu).2 z
  · clear hrun r1
    obtain ⟨es, clock, es', clock', hb, rfl⟩ := r2
    exact ⟨rfl, rfl, rfl, by simp [ChangeMaps.setBlock], fun k hk => ChangeMaps.heap_setBlock_other hb _ hk⟩
end
end Go.Proofs.Ytponlldgnlckfaa
