/-
  Contract of files.New.
-/
import Derived.Test.YtmemciebpnamkaaP5
namespace Go.Proofs.Ytmemciebpnamkaa
open Go.RowKit

/-- A slice of ints that reads as l: its elements' cells. -/
def IntsAt (w : World) (a : Option Addr) (l : List Int) : Prop :=
  ∀ i, i < l.length → ∃ b off, a = some ⟨b, off, none⟩ ∧ w.cell? ⟨b, off + i, none⟩ = some (.int .i64 (l.getD i 0))
theorem IntsAt.below {w w' : World} {a : Option Addr} {l : List Int} (h : IntsAt w a l) (hb : Below w.heap.size w w') : IntsAt w' a l := by
  intro i hi
  obtain ⟨b, off, rfl, h1⟩ := h i hi
  exact ⟨b, off, rfl, cell_later hb h1⟩
def clamp (x : Int) : Nat := (max 0 (min x 4096)).toNat
def sizesOf (l : List Int) : List Nat := (l.take 32).map clamp
theorem sizesOf_len (l : List Int) : (sizesOf l).length = min l.length 32 := by simp [sizesOf, Nat.min_comm]
theorem sizesOf_le (l : List Int) (k : Nat) : (sizesOf l).getD k 0 ≤ 4096 := by
  by_cases h : k < (sizesOf l).length
  · simp only [List.getD_eq_getElem?_getD, List.getElem?_eq_getElem h, Option.getD_some]
    simp only [sizesOf, List.getElem_map, clamp]
    omega
  · simp [List.getElem?_eq_none (Nat.le_of_not_lt h)]
theorem sizesOf_at (l : List Int) (k : Nat) (h : k < (sizesOf l).length) : (sizesOf l).getD k 0 = clamp (l.getD k 0) := by
  have h1 := sizesOf_len l
  have h2 : k < l.length := by omega
  have h3 : k < 32 := by omega
  simp [sizesOf, h2, h3]
/-- How far the row is filled. -/
def fillK (S : List Nat) (k : Nat) : List Nat := S.take k ++ List.replicate (S.length - k) 0
theorem fillK_len (S : List Nat) (k : Nat) : (fillK S k).length = S.length := by simp [fillK]; omega
theorem fillK_zero (S : List Nat) : fillK S 0 = List.replicate S.length 0 := by simp [fillK]
theorem fillK_all (S : List Nat) : fillK S S.length = S := by simp [fillK]
theorem fillK_step (S : List Nat) (k : Nat) (h : k < S.length) : (fillK S k).set k (S.getD k 0) = fillK S (k + 1) := by
  apply List.ext_getElem
  · simp [fillK]; omega
  · intro q h1 h2
    rw [List.getElem_set]
    by_cases hq : k = q
    · subst hq
      have hq : k < min (k + 1) S.length := by omega
      simp [fillK, h, hq]
    · rw [if_neg hq]
      simp only [fillK, List.getElem_append, List.length_take, List.getElem_take, List.getElem_replicate]
      by_cases hl : q < k
      · rw [dif_pos (by omega), dif_pos (by omega)]
      · rw [dif_neg (by omega), dif_neg (by omega)]

theorem info3 : (Try.prog.info? 3).map (fun i => (i.zero, i.size, i.bytes)) = some (some (.int .i64 0), 1, 8) := by kernel_rfl
theorem iv_replicate (n : Nat) : List.replicate n (Value.int .i64 0) = (List.replicate n 0).map iv := by simp [iv]
theorem iv_set (S : List Nat) (k x : Nat) : (S.map iv).set k (.int .i64 x) = (S.set k x).map iv := by rw [List.map_set]; rfl

set_option maxHeartbeats 1000000 in
theorem pnew (a : Option Addr) (cap : Nat) (l : List Int) (w : World) (hl : l.length ≤ 1000000) (hc : IntsAt w a l) :
    Calls Try.prog 8 #[.slice a l.length cap] w fun e w' => ∃ s p m, e = .returned (.pointer (some ⟨s, 0, none⟩)) ∧ StoreIs w' s p m (sizesOf l) [] ∧ Below w.heap.size w w' ∧ w.heap.size ≤ s ∧ w.heap.size ≤ p ∧ w.heap.size ≤ m := by
  have hSl := sizesOf_len l
  obtain ⟨S, hS⟩ : ∃ S, S = sizesOf l := ⟨_, rfl⟩
  rw [← hS] at hSl ⊢
  have HS : Hid (S = sizesOf l) := hS
  clear hS
  have hmm := @run_makeMap Try.prog
  have hn32 : S.length ≤ 32 := by omega
  have hnl : S.length ≤ l.length := by omega
  have HN : Hid (S.length = min l.length 32) := hSl
  clear hSl
  go_enter Try.func8, Try.ntmps8
  go_upto_region 1 with fail
  go_cut [3] (fun s3 wx => ∃ s p m, s3 = .pointer (some ⟨s, 0, none⟩) ∧ RowAt wx s 49 [.slice (some ⟨p, 0, none⟩) S.length S.length, .map (some m), .int .i64 0] ∧ RowAt wx p 3 ((fillK S 0).map iv) ∧ MapIs wx m [] ∧ Below w.heap.size w wx ∧ w.heap.size ≤ s ∧ w.heap.size ≤ p ∧ w.heap.size ≤ m ∧ s ≠ p)
  case first =>
    have hK : Hid (∀ w1, RowAt w1 w.heap.size 3 (List.replicate S.length (.int .i64 0)) → w1.heap.size = w.heap.size + 1 → Below w.heap.size w w1 → RowAt ((w1.alloc (.map #[] 0)).alloc (.cells #[.slice (some ⟨w.heap.size, 0, none⟩) S.length S.length, .map (some w1.heap.size), .int .i64 0] 49)) (w1.heap.size + 1) 49 [.slice (some ⟨w.heap.size, 0, none⟩) S.length S.length, .map (some w1.heap.size), .int .i64 0] ∧ RowAt ((w1.alloc (.map #[] 0)).alloc (.cells #[.slice (some ⟨w.heap.size, 0, none⟩) S.length S.length, .map (some w1.heap.size), .int .i64 0] 49)) w.heap.size 3 ((fillK S 0).map iv) ∧ MapIs ((w1.alloc (.map #[] 0)).alloc (.cells #[.slice (some ⟨w.heap.size, 0, none⟩) S.length S.length, .map (some w1.heap.size), .int .i64 0] 49)) w1.heap.size [] ∧ Below w.heap.size w ((w1.alloc (.map #[] 0)).alloc (.cells #[.slice (some ⟨w.heap.size, 0, none⟩) S.length S.length, .map (some w1.heap.size), .int .i64 0] 49))) := by
      intro w1 hr hz hb
      rw [iv_replicate, ← fillK_zero] at hr
      refine ⟨?_, (hr.alloc _).alloc _, (MapIs.new w1).block ?_, (hb.trans ((below_alloc _ _).mono hb.size)).trans ((below_alloc _ _).mono (by simp; omega))⟩
      · have := RowAt.new (w1.alloc (.map #[] 0)) #[.slice (some ⟨w.heap.size, 0, none⟩) S.length S.length, .map (some w1.heap.size), .int .i64 0] 49
        simpa using this
      · exact Below.heap_alloc _ _ _ (by simp)
    by_cases h32 : 32 < l.length
    · go_wp2_with (at_make; refine wpList_make_row _ rfl (.tmp 7) (.tmp 7) 22 rfl 3 (.int .i64 0) 8 Try.underlying22 info3 rfl .i64 .i64 _ _ S.length rfl rfl (by have := HN.out; omega) (by have := HN.out; omega) (by omega) (by omega) ?_; intro w1 hr hz hb)
      go_meet
      obtain ⟨f1, f2, f3, f4⟩ := hK.out w1 hr hz hb
      rw [hz] at f1 f2 f3 f4
      exact ⟨_, _, _, rfl, f1, f2, f3, f4, by omega, by omega, by omega, by omega⟩
    · go_wp2_with (at_make; refine wpList_make_row _ rfl (.tmp 7) (.tmp 7) 22 rfl 3 (.int .i64 0) 8 Try.underlying22 info3 rfl .i64 .i64 _ _ S.length rfl rfl (by have := HN.out; omega) (by have := HN.out; omega) (by omega) (by omega) ?_; intro w1 hr hz hb)
      all_goals
        go_meet
        obtain ⟨f1, f2, f3, f4⟩ := hK.out w1 hr hz hb
        rw [hz] at f1 f2 f3 f4
        exact ⟨_, _, _, rfl, f1, f2, f3, f4, by omega, by omega, by omega, by omega⟩
  case rest =>
    obtain ⟨s, p, m, rfl, hh, hr, hm, hb, l1, l2, l3, hsp⟩ := hcut
    have hmp : p ≠ m := hm.not_row hr
    have hcp : wc.cell? ⟨s, 0, none⟩ = some (.slice (some ⟨p, 0, none⟩) S.length S.length) := by rw [hh.cell]; rfl
    go_wp2
    clear hcp
    go_loopw [17] (fun s17 wr => ∃ k : Nat, k ≤ S.length ∧ s17 = .int .i64 k ∧ RowAt wr s 49 [.slice (some ⟨p, 0, none⟩) S.length S.length, .map (some m), .int .i64 0] ∧ RowAt wr p 3 ((fillK S k).map iv) ∧ MapIs wr m [] ∧ Below w.heap.size w wr) (fun s17 _ => S.length - (intOf s17).toNat)
    case atStart => exact ⟨0, by omega, rfl, hh, hr, hm, hb⟩
    case round =>
      clear hh hr hm hb hmm
      obtain ⟨k, hk, rfl, hh, hr, hm, hb⟩ := hrel
      by_cases hlt : k < S.length
      · have hcr := hc.below hb
        obtain ⟨ab, off, rfl, hx⟩ := hcr k (by omega)
        have hkl : k < l.length := by omega
        obtain ⟨x, hxx⟩ : ∃ x, x = l.getD k 0 := ⟨_, rfl⟩
        have HX : Hid (S.getD k 0 = clamp x) := by show _ = _; rw [HS.out, hxx]; exact sizesOf_at l k (by rw [← HS.out]; exact hlt)
        rw [← hxx] at hx
        have hcp : wr.cell? ⟨s, 0, none⟩ = some (.slice (some ⟨p, 0, none⟩) S.length S.length) := by rw [hh.cell]; rfl
        have hrc := hr.cell k
        have hfr := hr.frozen k
        rw [List.getElem?_map, List.getElem?_eq_getElem (by rw [fillK_len]; exact hlt)] at hrc
        obtain ⟨y, hy⟩ : ∃ y : Int, some (Value.int .i64 y) = Option.map iv (some ((fillK S k)[k]'(by rw [fillK_len]; exact hlt))) := ⟨_, rfl⟩
        rw [← hy] at hrc
        have HZ : Hid (∀ z : Int, z = clamp x → (∃ k' : Nat, k' ≤ S.length ∧ Value.int .i64 ((k : Int) + 1) = .int .i64 k' ∧ RowAt (wr.setCell ⟨p, k, none⟩ (.int .i64 z)).drew s 49 [.slice (some ⟨p, 0, none⟩) S.length S.length, .map (some m), .int .i64 0] ∧ RowAt (wr.setCell ⟨p, k, none⟩ (.int .i64 z)).drew p 3 ((fillK S k').map iv) ∧ MapIs (wr.setCell ⟨p, k, none⟩ (.int .i64 z)).drew m [] ∧ Below w.heap.size w (wr.setCell ⟨p, k, none⟩ (.int .i64 z)).drew)) := by
          intro z hz
          subst hz
          refine ⟨k + 1, by omega, by simp, (hh.other hsp _ _).drewN 1, ?_, hm.block (heap_setCell_other wr _ m _ (Ne.symm hmp)), below_drawn (hb.trans ((But.setCell p _ _ _).below l2)) 1⟩
          have := hr.set k (.int .i64 (clamp x))
          rw [iv_set, ← HX.out, fillK_step S k hlt] at this
          rw [← HX.out]
          exact this.drewN 1
        clear hxx hy hcr hc HX hr hh hm
        by_cases q1 : x < 0
        · have HC : Hid ((0 : Int) = clamp x) := by show _ = _; unfold clamp; omega
          go_wp2
          go_region
          all_goals
            go_wp2
            exact ⟨HZ.out _ HC.out, by simp [intOf]; omega⟩
        · have q3 : 0 ≤ x := by omega
          by_cases q2 : 4096 < x
          · have HC : Hid ((4096 : Int) = clamp x) := by show _ = _; unfold clamp; omega
            go_wp2
            go_region
            all_goals
              go_wp2
              exact ⟨HZ.out _ HC.out, by simp [intOf]; omega⟩
          · have q4 : x ≤ 4096 := by omega
            have HC : Hid (x = clamp x) := by show _ = _; unfold clamp; omega
            go_wp2
            go_region
            all_goals
              go_wp2
              exact ⟨HZ.out _ (by have := HC.out; first | exact this | (split <;> omega)), by simp [intOf]; omega⟩
      · have hkk : k = S.length := by omega
        subst hkk
        rw [fillK_all] at hr
        go_wp2
        go_ret
        exact ⟨s, p, m, rfl, ⟨by simpa using hh, hr, hm, hn32, fun q => by rw [HS.out]; exact sizesOf_le l q, fun e he => by cases he⟩, hb, l1, l2, l3⟩
end Go.Proofs.Ytmemciebpnamkaa
