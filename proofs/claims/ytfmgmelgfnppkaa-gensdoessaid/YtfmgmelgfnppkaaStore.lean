/-
  A store into a map at a key that is there, in the midst of a range over that very map: the range goes on as it would have. No program is named here.
-/
import Derived.Maps.RangeWalk
namespace Go.Proofs.Ytfmgmelgfnppkaa
open Go.ChangeMaps Go.MapKept Go.WideShapes
open Go.WideElems (Fit rd rg pl rd_key rd_val rg_of other_key)
open Go.Maps (Keyed)

section
variable {H : Type} {P : Program} {k : TypeId} {R : Value → Option (DataW H × List MemPlace)} {w : World} {b r n : Nat} {D : DataW H} {left : Lit → Bool} {cnt : Nat}

theorem left_len (a : Array MapEntry) (seen : Array Nat) : (leftOf a seen).size = (a.toList.filter fun e => !seen.contains e.born).length := by
  unfold leftOf
  rw [← Array.toList_filter, Array.length_toList]
theorem filter_set {α : Type} (p : α → Bool) : ∀ (l : List α) (j : Nat) (x y : α), l[j]? = some x → p y = p x → ((l.set j y).filter p).length = (l.filter p).length
  | [], j, x, y, h, _ => by simp at h
  | a :: l, 0, x, y, h, hp => by
    simp at h
    subst h
    simp only [List.set_cons_zero, List.filter_cons, hp]
    split <;> simp
  | a :: l, j + 1, x, y, h, hp => by
    simp at h
    simp only [List.set_cons_succ, List.filter_cons]
    split <;> simp [filter_set p l j x y h hp]

/-- The store. -/
theorem ranges_put {t e : TypeId} (h : w.ranges P k R b r n D left cnt) (K : Keyed P k) (ht : P.underlying t = some (.map k e)) (hn : n < maxLen) {key val : Value} {kl : Lit} {d : DataW H} {ps : List MemPlace}
    (hkey : keyOf P k key = some kl) (hv : R val = some (d, ps)) (hin : Maps.has D kl = true) :
    ∃ w', (Instr.mapUpdate t (.map (some b)) key val).run P w = .ok () w' ∧ w'.ranges P k R b r n (D.put kl d) left cnt ∧ w.grownBy w' (some b) ∧ w'.heap.size = w.heap.size := by
  have hne := h.ne
  obtain ⟨es, clock, since, seen, c0, hb, F, hs, rfl, hr, hold, rfl, hl1, hl2, hsc, hsk⟩ := h
  obtain ⟨es', clock', hrun, F', hput, -, -, hwho⟩ := Maps.fit_store (R' := R) K ht hb F (Nat.lt_of_le_of_lt hs hn) (fun _ _ _ _ hz => hz) hkey hv
  -- the key is there
  obtain ⟨p, hp, hpk⟩ := List.any_eq_true.1 hin
  obtain ⟨x0, hx0, rfl⟩ := List.mem_map.1 (mem_sorted.1 hp)
  obtain ⟨y0, hy0⟩ := F.reads x0 hx0
  have hk0 : x0.key = key := by
    have e1 := WideAt.sameKey_eq hpk
    rw [rg_of hy0] at e1
    exact K.inj (e1 ▸ rd_key hy0) hkey
  rcases K.find w hkey es.toList F.keys with ⟨h1, h2⟩ | ⟨j, e0, h1, h2, h3⟩
  · exact absurd hk0 (h2 x0 hx0)
  have hj : es[j]? = some e0 := by simpa using h2
  have hrun2 : (Instr.mapUpdate t (.map (some b)) key val).run P w = .ok () (setBlock w b (.map (es.modify j (fun e' => { e' with key := key, val := val })) clock)) := by
    simp [Instr.mapUpdate, run_underlying ht, MapKept.run_getObj_map hb, K.check w false hkey, h1, hj, h3, K.stays w hkey, MapKept.run_setObj_map _ hb, Result.andThen, setBlock]
  have hsame : Obj.map es' clock' = Obj.map (es.modify j (fun e' => { e' with key := key, val := val })) clock := by
    have e1 := hrun.symm.trans hrun2
    injection e1 with _ e1
    have a1 := heap_setBlock_same hb (.map es' clock')
    rw [e1, heap_setBlock_same hb _] at a1
    exact (Option.some.inj a1).symm
  injection hsame with e1 e2
  have hlist : es'.toList = es.toList.set j { e0 with key := key, val := val } := by rw [e1, Array.toList_modify, modify_eq_set _ _ _ _ h2]
  have hjl : j < es.toList.length := (List.getElem?_eq_some_iff.1 h2).1
  have hem : e0 ∈ es.toList := List.mem_of_getElem? h2
  have who : ∀ x ∈ es'.toList, ∃ x1 ∈ es.toList, x1.born = x.born ∧ (rg P k R x1).1 = (rg P k R x).1 := by
    intro x hx
    rw [hlist] at hx
    obtain ⟨i, hi, ex⟩ := List.getElem_of_mem hx
    rw [List.getElem_set] at ex
    split at ex
    · refine ⟨e0, hem, by rw [← ex], ?_⟩
      obtain ⟨y, hy⟩ := F.reads e0 hem
      obtain ⟨y', hy'⟩ := F'.reads x (by rw [hlist]; exact hx)
      have m1 := rd_key hy
      have m2 := rd_key hy'
      have ek : x.key = key := by rw [← ex]
      rw [h3, hkey] at m1
      rw [ek, hkey] at m2
      rw [rg_of hy, rg_of hy', ← Option.some.inj m1, ← Option.some.inj m2]
    · have hi' : i < es.toList.length := by simpa using hi
      exact ⟨x, ex ▸ List.getElem_mem hi', rfl, rfl⟩
  have back : ∀ x ∈ es.toList, ∃ x1 ∈ es'.toList, (rg P k R x1).1 = (rg P k R x).1 := by
    intro x hx
    obtain ⟨i, hi, ex⟩ := List.getElem_of_mem hx
    by_cases hij : j = i
    · subst hij
      have : x = e0 := by rw [List.getElem?_eq_getElem hi, ex] at h2; exact Option.some.inj h2
      subst this
      have hm : { x with key := key, val := val } ∈ es'.toList := by
        rw [hlist]
        exact List.mem_of_getElem? (i := j) (List.getElem?_set_self hjl)
      refine ⟨_, hm, ?_⟩
      obtain ⟨y, hy⟩ := F.reads x hx
      obtain ⟨y', hy'⟩ := F'.reads _ hm
      have m1 := rd_key hy
      have m2 := rd_key hy'
      rw [h3, hkey] at m1
      rw [hkey] at m2
      rw [rg_of hy, rg_of hy', ← Option.some.inj m1, ← Option.some.inj m2]
    · refine ⟨x, ?_, rfl⟩
      rw [hlist]
      refine List.mem_of_getElem? (i := i) ?_
      rw [List.getElem?_set_ne hij, List.getElem?_eq_getElem hi, ex]
  have hsz : es'.size = es.size := by
    rw [← Array.length_toList, ← Array.length_toList, hlist, List.length_set]
  refine ⟨_, hrun, ⟨es', clock', since, seen, c0, heap_setBlock_same hb _, F', by omega, by rw [DataW.put_eq, hput], (heap_setBlock_other hb _ hne).trans hr, fun x hx => ?_, ?_, fun x hx => ?_, fun kl' hkl => ?_, hsc, by omega⟩, ⟨rfl, rfl, rfl, by simp [setBlock], fun i _ hi => heap_setBlock_other hb _ (fun e => hi (by rw [e]))⟩, by simp [setBlock]⟩
  · obtain ⟨x1, hx1, eb, _⟩ := who x hx
    rw [← eb]; exact hold x1 hx1
  · rw [left_len, left_len, hlist]
    exact filter_set _ _ _ _ _ h2 rfl
  · obtain ⟨x1, hx1, eb, ek⟩ := who x hx
    rw [← ek, ← eb]; exact hl1 x1 hx1
  · obtain ⟨x, hx, rfl⟩ := hl2 kl' hkl
    exact back x hx

end

/-- The store at the operation, for the walk. -/
theorem wpList_mapUpdate_ranges {H : Type} {P : Program} (w : World) {ops : Array Oper} {rest : List Oper} {o : Oper} {a : Act} {Q : Exit → Act → World → Prop}
    (hg : o.guard = none) (m x v : Operand) (t : TypeId) (hop : o.op = Op.mapUpdate t m x v)
    (k e : TypeId) (K : Keyed P k) (ht : P.underlying t = some (.map k e)) (R : Value → Option (DataW H × List MemPlace)) (b r n : Nat) (D : DataW H) (left : Lit → Bool) (cnt : Nat)
    (hm : a.eval m = .map (some b)) (h : w.ranges P k R b r n D left cnt) (hn : n < maxLen) (key val : Value) (kl : Lit) (hx : a.eval x = key) (hv : a.eval v = val) (hkey : keyOf P k key = some kl)
    (d : DataW H) (ps : List MemPlace) (hval : R val = some (d, ps)) (hin : Maps.has D kl = true)
    (hK : ∀ w', w'.ranges P k R b r n (D.put kl d) left cnt → w.grownBy w' (some b) → w'.heap.size = w.heap.size → wpList P ops Q rest (a.put o.dst undef) w') :
    wpList P ops Q (o :: rest) a w := by
  refine wpList_plain hg fun K' hK' => ?_
  obtain ⟨w', hrun, r1, r2, r3⟩ := ranges_put h K ht hn hkey hval hin
  unfold Oper.wp
  simp [execOp, hop, hm, hx, hv, hrun, Result.andThen]
  exact hK' _ _ (hK w' r1 r2 r3)

end Go.Proofs.Ytfmgmelgfnppkaa
