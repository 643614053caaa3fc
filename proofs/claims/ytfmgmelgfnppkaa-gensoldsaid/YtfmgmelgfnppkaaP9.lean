/-
  slices.SortFunc with the closure that orders two ids; a set of groups.
-/
import Derived.Test.YtfmgmelgfnppkaaP8
namespace Go.Proofs.Ytfmgmelgfnppkaa
open Go.RowKit Go.Lib
open Go.Sort (SWO Holds grow SortedIn PermIn)

abbrev Wf := {x : Int // (Lit.int .i64 x).wf = true}
def encW (x : Wf) : Value := .int .i64 x.1

theorem sw_apart {α : Type} [Inhabited α] (enc : α → Value) (w : World) (blk off n : Nat) (d : Array α) (os : Array Obj) : Apart blk w (sortWorld enc w blk off n d os) := by
  refine ⟨rfl, rfl, rfl, ?_, fun k hk hne => ?_⟩
  · unfold sortWorld
    rw [Go.Sort.size_grow]
    simp [Go.Sort.putRow, Go.Sort.mapBlock, Go.Sort.ahead]
  · unfold sortWorld
    rw [Go.Sort.heap_grow_old _ _ (by simp [Go.Sort.putRow, Go.Sort.mapBlock, Go.Sort.ahead]; exact hk)]
    have hn : ¬ blk = k := fun e => hne e.symm
    simp [Go.Sort.putRow, Go.Sort.mapBlock, Go.Sort.ahead, Array.getElem?_modify, hn]

section
variable {w w' : World} {t m : Nat} {L : List En}
theorem LsIs.apart {p : Nat} (h : LsIs w t m L) (ha : Apart p w w') (h1 : t ≠ p) (h2 : m ≠ p) : LsIs w' t m L :=
  ⟨h.h.apart ha h1, h.m.block (ha.block m h.m.lt h2), h.ok⟩
end

theorem psort (t m : Nat) (L : List En) (b0 blk cap : Nat) (D : List Wf) (w : World) (h : LsIs w t m L) (hb : RowAt w b0 25 [.pointer (some ⟨t, 0, none⟩)]) (ht : t ≠ blk) (hm : m ≠ blk) (hb0 : b0 ≠ blk)
    (hblk : blk < w.heap.size) (hc : ∀ j, j < D.length → w.cell? ⟨blk, j, none⟩ = (D.map encW)[j]? ∧ w.frozen? ⟨blk, j, none⟩ = false) (hlen : D.length < 4611686018427387904) :
    Calls Try.prog 32 #[.slice (some ⟨blk, 0, none⟩) D.length cap, .func (.func 33) #[] #[.pointer (some ⟨b0, 0, none⟩)]] w fun e w' =>
      e = .returned (.tuple #[]) ∧ ∃ C : List Wf, C.Perm D ∧ C.Pairwise (fun x y => ¬ cmpO L y.1 x.1 < 0) ∧ (∀ j, j < C.length → w'.cell? ⟨blk, j, none⟩ = (C.map encW)[j]?) ∧ Apart blk w w' := by
  have inh : Inhabited Wf := ⟨⟨0, by decide⟩⟩
  have hO : SWO (ltOf fun (x y : Wf) => cmpO L x.1 y.1) := by
    refine ⟨fun x => ?_, fun x y z h1 h2 => ?_, fun x y z h1 h2 => ?_⟩ <;> simp only [ltOf, decide_eq_true_eq, decide_eq_false_iff_not, cmpO_lt] at * <;> omega
  have hcmp : CmpLays1 Try.prog 33 #[.pointer (some ⟨b0, 0, none⟩)] encW (fun (x y : Wf) => cmpO L x.1 y.1) blk 0 D.toArray.size w := by
    intro k os dk hs x y
    have ha := sw_apart encW w blk 0 k dk os
    exact pcmp t m L x.1 y.1 b0 _ (h.apart ha ht hm) (hb.apart ha hb0) x.2 y.2
  have hH : Holds encW w blk 0 D.toArray := by
    intro j hj
    have hj' : j < D.length := by simpa using hj
    obtain ⟨h1, h2⟩ := hc j hj'
    rw [Nat.zero_add, h1, h2]
    refine ⟨?_, rfl⟩
    simp [hj']
  have hcon := Any.slices_SortFunc Try.sortL encW (fun _ => rfl) (fun (x y : Wf) => cmpO L x.1 y.1) hO 33 #[.pointer (some ⟨b0, 0, none⟩)] blk 0 cap D.toArray w (enters_of Try.func33 (by kernel_rfl) rfl) hcmp hH hblk (by simpa using hlen)
  change Calls Try.prog 32 _ _ _ at hcon
  simp only [List.size_toArray] at hcon
  refine hcon.mono ?_
  rintro e w' ⟨rfl, d', n, os, hp, hs, rfl⟩
  obtain ⟨p1, -, p3⟩ := hp
  have hsz : d'.size = D.length := by simpa using p1
  have hold : Holds encW (sortWorld encW w blk 0 n d' os) blk 0 d' := SW.holds (w0 := w) (dk := d') ⟨n, os, rfl⟩ hblk hH (by simpa using hsz)
  refine ⟨rfl, d'.toList, ?_, ?_, ?_, sw_apart _ _ _ _ _ _ _⟩
  · have e1 : d'.extract 0 D.length = d' := by rw [← hsz]; simp
    have e2 : D.toArray.extract 0 D.length = D.toArray := by simp
    rw [e1, e2] at p3
    simpa using p3
  · rw [List.pairwise_iff_getElem]
    intro i j hi hj hij
    have := hs i j (Nat.zero_le _) hij (by rw [← hsz]; simpa using hj)
    rw [getElem!_pos d' i (by simpa using hi), getElem!_pos d' j (by simpa using hj)] at this
    simpa [ltOf] using this
  · intro j hj
    have := (hold j (by simpa using hj)).1
    rw [Nat.zero_add] at this
    rw [this, getElem!_pos d' j (by simpa using hj)]
    have hj2 : j < d'.size := by simpa using hj
    simp [hj2]

/-! ### a set of groups -/
def Sd (w : World) (m : Nat) (S : List Int) : Prop := ∃ (n : Nat) (D : DataW Value), w.ownsMap Try.prog 3 unitElem m n D ∧ n ≤ S.length ∧ ∀ i, Maps.has D (.int .i64 i) = S.any fun g => g == i
theorem zero58 (w : World) : (zeroValue 58).run Try.prog w = .ok (.agg #[]) w := by kernel_rfl
section
variable {w w' : World} {m : Nat} {S : List Int}
theorem Sd.block (h : Sd w m S) (hb : w'.heap[m]? = w.heap[m]?) : Sd w' m S := by
  obtain ⟨n, D, h1, h2⟩ := h
  exact ⟨n, D, ownsMap_block h1 hb, h2⟩
theorem Sd.lt (h : Sd w m S) : m < w.heap.size := by
  obtain ⟨n, D, h1, h2⟩ := h
  exact h1.lt
theorem Sd.new (w : World) : Sd (w.alloc (.map #[] 0)) w.heap.size [] := ⟨0, .map [], World.ownsMap_made _ _ _ _, Nat.le_refl _, fun _ => rfl⟩
theorem Sd.look (h : Sd w m S) {i : Int} (hi : (Lit.int .i64 i).wf = true) :
    (Instr.lookup 57 (.map (some m)) (.int .i64 i) true).run Try.prog w = .ok (.tuple #[.agg #[], .bool (S.any fun g => g == i)]) w := by
  obtain ⟨n, D, h1, -, h2⟩ := h
  obtain ⟨v, ps, hrun, hv⟩ := h1.look_ok keyed Try.underlying57 (zero58 w) (zd := .agg []) (zp := []) unitElem_mk (keyOf_i hi)
  obtain ⟨rfl, -⟩ := unitElem_inv hv
  rw [hrun, h2]
theorem Sd.store (h : Sd w m S) {i : Int} (hi : (Lit.int .i64 i).wf = true) (hS : S.length < 1000000) :
    ∃ w', (Instr.mapUpdate 57 (.map (some m)) (.int .i64 i) (.agg #[])).run Try.prog w = .ok () w' ∧ Sd w' m (S ++ [i]) ∧ But m w w' := by
  obtain ⟨n, D, h1, h0, h2⟩ := h
  obtain ⟨w', hrun, r1, r2⟩ := h1.store keyed Try.underlying57 (by unfold maxLen; omega) (keyOf_i hi) (unitElem_mk (H := Value))
  refine ⟨w', hrun, ⟨_, _, r1, by simpa using h0, fun j => ?_⟩, ?_⟩
  · by_cases hj : j = i
    · subst hj
      rw [Maps.has_put_same h1.isMap (isKey hi)]
      simp
    · rw [Maps.has_put_other (key_ne hj), h2]
      have : (i == j) = false := by simp; exact fun e => hj e.symm
      simp [this]
  · clear hrun r1
    obtain ⟨es, clock, es', clock', hb, rfl⟩ := r2
    exact ⟨rfl, rfl, rfl, by simp [ChangeMaps.setBlock], fun k hk => ChangeMaps.heap_setBlock_other hb _ hk⟩
end
end Go.Proofs.Ytfmgmelgfnppkaa
