/-
  What a page has at first; the contracts of files.First and of the document's First.
-/
import Derived.Test.YtmemciebpnamkaaMem
import Derived.Test.YtmemciebpnamkaaRows
namespace Go.Proofs.Ytmemciebpnamkaa
open Go.RowKit

/-- Byte j of what a page has at first. -/
def firstB (f i : Int) (j : Nat) : UInt8 := UInt8.ofNat ((f * 31 + i * 7 + j) % 256).toNat
def firstT (f i : Int) : List UInt8 := (List.range 16).map (firstB f i)
theorem firstT_len (f i : Int) : (firstT f i).length = 16 := by simp [firstT]
theorem firstB_val (f i : Int) (j : Nat) : ((firstB f i j).toNat : Int) = (f * 31 + i * 7 + j) % 256 := by
  unfold firstB
  have h0 : 0 ≤ (f * 31 + i * 7 + (j : Int)) % 256 := Int.emod_nonneg _ (by decide)
  have h1 : (f * 31 + i * 7 + (j : Int)) % 256 < 256 := Int.emod_lt_of_pos _ (by decide)
  simp
  omega
/-- How far the row is filled. -/
def firstK (f i : Int) (k : Nat) : List UInt8 := (List.range 16).map fun j => if j < k then firstB f i j else 0
theorem firstK_len (f i : Int) (k : Nat) : (firstK f i k).length = 16 := by simp [firstK]
theorem firstK_zero (f i : Int) : firstK f i 0 = List.replicate 16 0 := by simp [firstK]; rfl
theorem firstK_all (f i : Int) : firstK f i 16 = firstT f i := by
  unfold firstK firstT
  apply List.map_congr_left
  intro j hj
  simp at hj
  simp [hj]
theorem firstK_step (f i : Int) (k : Nat) : (firstK f i k).set k (firstB f i k) = firstK f i (k + 1) := by
  apply List.ext_getElem
  · simp [firstK]
  · intro j h1 h2
    simp [firstK] at h1 h2
    simp only [firstK, List.getElem_set, List.getElem_map, List.getElem_range]
    by_cases h : k = j
    · subst h; simp
    · have : (j < k + 1) = (j < k) := by simp; omega
      simp [h, this]

theorem wrap64_mod (x : Int) : wrap64 x % 256 = x % 256 := by
  unfold wrap64
  omega
theorem start_mod (f i : Int) : wrap64 (wrap64 (f * 31) + wrap64 (i * 7)) % 256 = (f * 31 + i * 7) % 256 := by
  rw [wrap64_mod]
  have h1 := wrap64_mod (f * 31)
  have h2 := wrap64_mod (i * 7)
  omega

set_option maxHeartbeats 1000000 in
theorem pfirst (f i : Int) (w : World) :
    Calls Try.prog 11 #[.agg #[.int .i64 f, .int .i64 i]] w fun e w' => e = .returned (.string ⟨(firstT f i).toArray⟩) ∧ Below w.heap.size w w' := by
  obtain ⟨S, hS⟩ : ∃ S, S = wrap64 (wrap64 (f * 31) + wrap64 (i * 7)) := ⟨_, rfl⟩
  have hm : S % 256 = (f * 31 + i * 7) % 256 := by rw [hS, start_mod]
  have HS : Hid (S = wrap64 (wrap64 (f * 31) + wrap64 (i * 7))) := hS
  have HM : Hid (S % 256 = (f * 31 + i * 7) % 256) := hm
  clear hS hm
  go_enter Try.func11, Try.ntmps11
  go_wp2
  rw [← HS.out]
  go_loopw [13] (fun s13 wr => ∃ k : Nat, k ≤ 16 ∧ s13 = .int .i64 k ∧ RowAt wr (w.heap.size + 1) 51 (bc (firstK f i k)) ∧ Below w.heap.size w wr) (fun s13 _ => 16 - (intOf s13).toNat)
  case atStart =>
    refine ⟨0, by omega, rfl, ?_, (below_alloc _ _).trans ((below_alloc _ _).mono (by simp))⟩
    have := RowAt.new (w.alloc (Obj.cells #[Value.int IntKind.i64 f, Value.int IntKind.i64 i] 25)) #[Value.int IntKind.u8 0, Value.int IntKind.u8 0, Value.int IntKind.u8 0, Value.int IntKind.u8 0,
          Value.int IntKind.u8 0, Value.int IntKind.u8 0, Value.int IntKind.u8 0, Value.int IntKind.u8 0,
          Value.int IntKind.u8 0, Value.int IntKind.u8 0, Value.int IntKind.u8 0, Value.int IntKind.u8 0,
          Value.int IntKind.u8 0, Value.int IntKind.u8 0, Value.int IntKind.u8 0, Value.int IntKind.u8 0] 51
    rw [firstK_zero, ← bc_replicate]
    simpa using this
  case round =>
    obtain ⟨k, hk, rfl, hr, hb⟩ := hrel
    by_cases hlt : k < 16
    · have hc := hr.cell k
      have hfr := hr.frozen k
      rw [bc_get _ _ (by rw [firstK_len]; exact hlt)] at hc
      obtain ⟨x, hx⟩ : ∃ x, x = (((firstK f i k)[k]'(by rw [firstK_len]; exact hlt)).toNat : Int) := ⟨_, rfl⟩
      rw [← hx] at hc
      clear hx
      go_wp2
      refine ⟨⟨k + 1, by omega, by go_num, ?_, hb.trans ((But.setCell (w.heap.size + 1) _ _ _).below (by omega))⟩, by simp [intOf]; omega⟩
      have hv : Value.int IntKind.u8 (wrap64 (S + ↑k) % 256) = bv (firstB f i k) := by
        unfold bv
        rw [firstB_val, wrap64_mod]
        have := HM.out
        congr 1
        omega
      rw [hv]
      have := hr.set k (bv (firstB f i k))
      rw [bc_set, firstK_step] at this
      exact this
    · have hk16 : k = 16 := by omega
      subst hk16
      rw [firstK_all] at hr
      have hcv := run_convert_bytes_back (P := Try.prog) wr 52 9 5 ⟨w.heap.size + 1, 0, none⟩ 16 (firstT f i) Try.underlying52 Try.underlying5 Try.underlying9 (fun j hj => by
        rw [Addr.add_mid, hr.cell, Nat.zero_add]; exact bc_get _ j hj)
      rw [firstT_len] at hcv
      go_wp2
      go_ret
      exact ⟨rfl, hb⟩

set_option maxHeartbeats 1000000 in
theorem rfirst (f i : Int) (w : World) :
    Calls Try.prog 12 #[.agg #[.int .i64 f, .int .i64 i]] w fun e w' => e = .returned (.string ⟨(firstT f i).toArray⟩) ∧ Below w.heap.size w w' := by
  obtain ⟨S, hS⟩ : ∃ S, S = wrap64 (wrap64 (f * 31) + wrap64 (i * 7)) := ⟨_, rfl⟩
  have hm : S % 256 = (f * 31 + i * 7) % 256 := by rw [hS, start_mod]
  have HS : Hid (S = wrap64 (wrap64 (f * 31) + wrap64 (i * 7))) := hS
  have HM : Hid (S % 256 = (f * 31 + i * 7) % 256) := hm
  clear hS hm
  have z5 : (Try.prog.info? 5).map (fun i => (i.zero, i.size, i.bytes)) = some (some (.int .u8 0), 1, 1) := by kernel_rfl
  go_enter Try.func12, Try.ntmps12
  go_wp2_with (refine wpList_make_row _ rfl (.const (.int .i64 16)) (.const (.int .i64 16)) 52 rfl 5 (.int .u8 0) 1 Try.underlying52 z5 rfl .i64 .i64 16 16 16 rfl rfl rfl rfl (by decide) (by decide) ?_; intro w1 hr1 hs1 hb1)
  go_loopw [4] (fun s4 wr => ∃ k : Nat, k ≤ 16 ∧ s4 = .int .i64 k ∧ RowAt wr (w.heap.size + 1) 5 (bc (firstK f i k)) ∧ RowAt wr w.heap.size 25 [.int .i64 f, .int .i64 i] ∧ Below w.heap.size w wr) (fun s4 _ => 16 - (intOf s4).toNat)
  case atStart =>
    refine ⟨0, by omega, rfl, ?_, (RowAt.new w _ 25).below hb1 (by simp), (below_alloc _ _).trans (hb1.mono (by simp))⟩
    rw [firstK_zero, ← bc_replicate]
    simpa using hr1
  case round =>
    clear hr1 hs1 hb1
    obtain ⟨k, hk, rfl, hr, hq, hb⟩ := hrel
    by_cases hlt : k < 16
    · have hc := hr.cell k
      have hfr := hr.frozen k
      rw [bc_get _ _ (by rw [firstK_len]; exact hlt)] at hc
      obtain ⟨x, hx⟩ : ∃ x, x = (((firstK f i k)[k]'(by rw [firstK_len]; exact hlt)).toNat : Int) := ⟨_, rfl⟩
      rw [← hx] at hc
      have hq0 : wr.cell? ⟨w.heap.size, 0, none⟩ = some (.int .i64 f) := by rw [hq.cell]; rfl
      have hq1 : wr.cell? ⟨w.heap.size, 1, none⟩ = some (.int .i64 i) := by rw [hq.cell]; rfl
      clear hx
      go_wp2
      rw [← HS.out]
      refine ⟨⟨k + 1, by omega, by go_num, ?_, hq.other (by omega) _ _, hb.trans ((But.setCell (w.heap.size + 1) _ _ _).below (by omega))⟩, by simp [intOf]; omega⟩
      have hv : Value.int IntKind.u8 (wrap64 (S + ↑k) % 256) = bv (firstB f i k) := by
        unfold bv
        rw [firstB_val, wrap64_mod]
        have := HM.out
        congr 1
        omega
      rw [hv]
      have := hr.set k (bv (firstB f i k))
      rw [bc_set, firstK_step] at this
      exact this
    · have hk16 : k = 16 := by omega
      subst hk16
      rw [firstK_all] at hr
      have hcv := run_convert_bytes_back (P := Try.prog) wr 52 9 5 ⟨w.heap.size + 1, 0, none⟩ 16 (firstT f i) Try.underlying52 Try.underlying5 Try.underlying9 (fun j hj => by
        rw [Addr.add_mid, hr.cell, Nat.zero_add]; exact bc_get _ j hj)
      rw [firstT_len] at hcv
      go_wp2
      go_ret
      exact ⟨rfl, hb⟩
end Go.Proofs.Ytmemciebpnamkaa
