/-
  The contract of All.
-/
import Derived.Test.YtponlldgnlckfaaP11
set_option maxRecDepth 100000
namespace Go.Proofs.Ytponlldgnlckfaa
open Go.RowKit

/-- slices.Sort's two contracts here, at the fence that asks nothing. -/
theorem sortsA (m : Nat) : AnyZI.SortsIn Try.prog Try.sortedL_ren Fence.wide m :=
  ⟨fun blk off cap ss W hH hblk hsz => callsIn_wide.2 (AnyM.slices_Sort_int Try.sortL blk off cap ss W hH hblk hsz),
   fun p cap W => callsIn_wide.2 (AnyM.slices_Sort_int_none Try.sortL p cap W)⟩
theorem all_perm {w : World} {m n : Nat} {D : DataW Value} {L : List Pg} (hL : L.length < 900000) (hown : w.ownsMap Try.prog 3 asIs m n D) (h : Rd 3 mkI D (GP L)) : (idsL L (anyP true 0)).Perm (intKeys D) := by
  refine CollectedI.perm (left := fun _ => false) ⟨ids_nodup L _, fun x => ?_⟩ hown keyed3 Try.underlying3 (fun _ => rfl)
  unfold idsL
  rw [ids_mem]
  constructor
  · rintro ⟨k, hk, rfl, hg, -⟩
    exact ⟨(rd_has hL h ((has_nat L k).2 ⟨hk, hg⟩)).1, rfl⟩
  · rintro ⟨hx, -⟩
    have hw : (Lit.int .i64 x).wf = true := by
      obtain ⟨es, rfl, hko⟩ := hown.keysOf
      rw [Maps.has_eq, List.any_eq_true] at hx
      obtain ⟨p, hp, hs⟩ := hx
      obtain ⟨v, hv⟩ := hko p hp
      obtain ⟨y, -, hy, hl⟩ := Maps.keyOf_i64 Try.underlying3 hv
      rw [hy, sameKey_int] at hs
      have : y = x := by simpa using hs
      rw [← this]; exact hl
    obtain ⟨k, rfl, hk, hg⟩ := has_nat' (rd_not h hw hx)
    exact ⟨k, hk, rfl, hg, rfl⟩
section
variable {w0 w : World} {t mp mf ms : Nat} {L : List Pg}
set_option maxHeartbeats 1000000 in
theorem pall (h : PT w0 w t mp mf ms L) (hL : L.length < 900000) :
    Calls Try.prog 26 #[.pointer (some ⟨t, 0, none⟩)] w fun e w' => ∃ a cap, e = .returned (.slice a (idsL L (anyP true 0)).length cap) ∧ Ints w' a (idsL L (anyP true 0)) ∧ (∀ p, a = some p → w.heap.size ≤ p.block) ∧ Below w.heap.size w w' := by
  have hc := h.c1
  have hcn : L.countP liveP < 900000 := Nat.lt_of_le_of_lt (count_le _ _) hL
  obtain ⟨D, hown, hsz, hrd⟩ := h.p
  have hperm := all_perm hL hown hrd
  have hmax : Maps.size D ≤ maxLen := by rw [hsz]; unfold maxLen; omega
  have hbytes : Maps.size D * 8 ≤ 140737488355328 := by omega
  clear h hsz hrd hcn
  refine (callsIn_wide (n := 6)).1 ?_
  have hbl := hown.lt
  have hseq : SeqGives Fence.wide 2 Try.prog 46 #[.pointer (some ⟨w.heap.size, 0, none⟩)] encZ (fun ss => ss.Perm (intKeys D)) (Maps.size D) (w.alloc (.cells #[.map (some mp)] 62)) :=
    AnyZI.keys_gives (ρ := Try.keysL_ren) { Try.keysL with } Fence.wide _ trivial rfl (by omega) w.heap.size mp _ D _ (by simp) (by simp) (by
      obtain ⟨es, clock, hb, Ft, hs, hD⟩ := hown
      exact ⟨es, clock, (Below.heap_alloc _ _ mp hbl).trans hb, Ft, hs, hD⟩)
  have cK : ∀ mb W, CallsIn Fence.wide 5 Try.prog 37 #[.map mb] W fun e w' => e = .returned (.func (.func 46) #[] #[.pointer (some ⟨W.heap.size, 0, none⟩)]) ∧ w' = W.alloc (.cells #[.map mb] 62) := fun mb W => AnyZI.keys_in Try.keysL Fence.wide 5 trivial rfl mb W
  have cS := AnyZI.sorted_in Try.sortedL Fence.wide 5 trivial trivial trivial trivial rfl (by omega) (sortsA _) (enters_of Try.func38 (by kernel_rfl) rfl) 46 #[.pointer (some ⟨w.heap.size, 0, none⟩)] trivial (enters_of Try.func46 (by kernel_rfl) rfl) _ _ hmax hbytes _ hseq
  change CallsIn _ _ Try.prog 36 _ _ _ at cS
  have hfK : Fence.wide.fn 37 := trivial
  have hfS : Fence.wide.fn 36 := trivial
  clear hseq hmax hbytes hbl hown
  refine callsIn_of_wp Try.func26 rfl trivial ?_ rfl
  simp only [Try.ntmps26, List.size_toArray, List.length_cons, List.length_nil, Nat.reduceAdd, Nat.reduceSub, Array.replicate_succ, Array.replicate_zero, List.push_toArray, List.append_toArray, List.nil_append, List.cons_append]
  gi_wp2_with (first
    | (gi_at_call 37; refine (cK _ _).mono ?_; rintro e w' ⟨rfl, rfl⟩)
    | (gi_at_call 36; refine cS.mono ?_; rintro e w' ⟨v, ss, rfl, hS, hrow, hnil, hb⟩))
  go_ret
  have hp := hS.trans hperm.symm
  have hrow' := ownsRow_base_a (base' := w.heap.size) hrow (by simp)
  rw [sort_ids hp, hp.length_eq] at hrow'
  obtain ⟨a, cap, rfl, hI⟩ := ints_own hrow' (ids_wf hL)
  exact ⟨a, cap, rfl, hI, own_lo hrow', ((Below.refl _ w).alloc (Nat.le_refl _) _).trans (hb.mono (by simp))⟩
end
end Go.Proofs.Ytponlldgnlckfaa
