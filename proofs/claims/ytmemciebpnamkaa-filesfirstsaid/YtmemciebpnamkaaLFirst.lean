/-
  The law FilesFirst, walked: for every input it answers true.
-/
import Derived.Test.YtmemciebpnamkaaOwn
namespace Go.Proofs.Ytmemciebpnamkaa
open Go.RowKit

theorem first_size (f i : Int) : (⟨(firstT f i).toArray⟩ : ByteArray).size = 16 := by rw [text_size, firstT_len]
theorem first_at {f i : Int} {t : ByteArray} (ht : t = ⟨(firstT f i).toArray⟩) (j : Nat) (h : j < t.size) : ((t[j]'h).toNat : Int) = (f * 31 + i * 7 + j) % 256 := by
  subst ht
  have hj : j < 16 := by rw [first_size] at h; exact h
  have : (firstT f i).toArray[j]'(by simp [firstT_len, hj]) = firstB f i j := by simp [firstT]
  show (((firstT f i).toArray[j]'(by simp [firstT_len, hj])).toNat : Int) = _
  rw [this, firstB_val]

theorem first_index {f i : Int} {t : ByteArray} (ht : t = ⟨(firstT f i).toArray⟩) (x : Int) (h0 : 0 ≤ x) (h1 : x < 16) (w : World) : (Instr.index 9 (.string t) (.int .i64 x)).run Try.prog w = .ok (.int .u8 ((f * 31 + i * 7 + x) % 256)) w := by
  obtain ⟨j, rfl⟩ := Int.eq_ofNat_of_zero_le h0
  have hs : t.size = 16 := by rw [ht, first_size]
  rw [run_index_string (P := Try.prog) (w := w) 9 t .i64 j Try.underlying9, dif_pos ⟨by omega, by omega⟩]
  have := first_at ht j (by omega)
  rw [← this]
  rfl

set_option maxRecDepth 100000 in
set_option maxHeartbeats 4000000 in
theorem first_walk (f i : Int) (w : World) :
    Calls Try.prog 5 #[.agg #[.int .i64 f, .int .i64 i]] w fun e w' => e = .returned (.bool true) ∧ Below w.heap.size w w' := by
  obtain ⟨f2, hf2⟩ : ∃ x, x = wrap64 (f + 1) := ⟨_, rfl⟩
  obtain ⟨i2, hi2⟩ : ∃ x, x = wrap64 (i + 1) := ⟨_, rfl⟩
  have HF : Hid (f2 = wrap64 (f + 1)) := hf2
  have HI : Hid (i2 = wrap64 (i + 1)) := hi2
  clear hf2 hi2
  go_enter Try.func5, Try.ntmps5
  go_wp2_with fail
  refine (works_any _).mono ?_
  rintro e w1 ⟨rfl, hb1⟩
  have hkr : RowAt w1 w.heap.size 25 [.int .i64 f, .int .i64 i] := (RowAt.new w #[.int .i64 f, .int .i64 i] 25).below hb1 (by simp)
  have hb : Below w.heap.size w w1 := (below_alloc _ _).trans (hb1.mono (by simp))
  have k0 : w1.cell? ⟨w.heap.size, 0, none⟩ = some (.int .i64 f) := by rw [hkr.cell]; rfl
  have k1 : w1.cell? ⟨w.heap.size, 1, none⟩ = some (.int .i64 i) := by rw [hkr.cell]; rfl
  clear hb1
  go_wp2_with fail
  refine (pfirst f i _).mono ?_
  rintro e w2 ⟨rfl, hb2⟩
  have hk2 := hkr.below hb2 hkr.lt
  have hB2 := hb.trans (hb2.mono hb.size)
  clear k0 k1 hkr hb hb2
  have k0 : w2.cell? ⟨w.heap.size, 0, none⟩ = some (.int .i64 f) := by rw [hk2.cell]; rfl
  have k1 : w2.cell? ⟨w.heap.size, 1, none⟩ = some (.int .i64 i) := by rw [hk2.cell]; rfl
  obtain ⟨ta, hta⟩ : ∃ t : ByteArray, t = ⟨(firstT f i).toArray⟩ := ⟨_, rfl⟩
  rw [← hta]
  have HTA : Hid (ta = ⟨(firstT f i).toArray⟩) := hta
  have sa : ta.size = 16 := by rw [hta, first_size]
  clear hta
  go_wp2_with fail
  rw [← HF.out]
  refine (pfirst f2 i _).mono ?_
  rintro e w3 ⟨rfl, hb3⟩
  have hk3 := hk2.below hb3 hk2.lt
  have hB3 := hB2.trans (hb3.mono hB2.size)
  clear k0 k1 hk2 hB2 hb3
  have k0 : w3.cell? ⟨w.heap.size, 0, none⟩ = some (.int .i64 f) := by rw [hk3.cell]; rfl
  have k1 : w3.cell? ⟨w.heap.size, 1, none⟩ = some (.int .i64 i) := by rw [hk3.cell]; rfl
  obtain ⟨tb, htb⟩ : ∃ t : ByteArray, t = ⟨(firstT f2 i).toArray⟩ := ⟨_, rfl⟩
  rw [← htb]
  have HTB : Hid (tb = ⟨(firstT f2 i).toArray⟩) := htb
  have sb : tb.size = 16 := by rw [htb, first_size]
  clear htb
  go_wp2_with fail
  rw [← HI.out]
  refine (pfirst f i2 _).mono ?_
  rintro e w4 ⟨rfl, hb4⟩
  have hB4 := hB3.trans (hb4.mono hB3.size)
  clear k0 k1 hk3 hB3 hb4
  obtain ⟨tc, htc⟩ : ∃ t : ByteArray, t = ⟨(firstT f i2).toArray⟩ := ⟨_, rfl⟩
  rw [← htc]
  have HTC : Hid (tc = ⟨(firstT f i2).toArray⟩) := htc
  have sc : tc.size = 16 := by rw [htc, first_size]
  clear htc
  go_wp2
  go_loopw [7] (fun s7 wr => ∃ x : Int, 0 ≤ x ∧ x ≤ 16 ∧ s7 = .int .i64 x ∧ Below w.heap.size w wr) (fun s7 _ => (16 - intOf s7).toNat)
  case atStart => exact ⟨0, by omega, by omega, rfl, hB4⟩
  case round =>
    clear hB4
    obtain ⟨x, hx0, hx1, rfl, hb⟩ := hrel
    by_cases hlt : x < 16
    · obtain ⟨A, hA⟩ : ∃ A, A = (f * 31 + i * 7 + x) % 256 := ⟨_, rfl⟩
      obtain ⟨B, hB⟩ : ∃ A, A = (f2 * 31 + i * 7 + x) % 256 := ⟨_, rfl⟩
      obtain ⟨C, hC⟩ : ∃ A, A = (f * 31 + i2 * 7 + x) % 256 := ⟨_, rfl⟩
      have xa := fun w => first_index HTA.out x hx0 hlt w
      have xb := fun w => first_index HTB.out x hx0 hlt w
      have xc := fun w => first_index HTC.out x hx0 hlt w
      rw [← hA] at xa
      rw [← hB] at xb
      rw [← hC] at xc
      have eb : (B != (A + 31) % 256) = false := by
        have h3 := wrap64_mod (f + 1)
        rw [← HF.out] at h3
        simp
        omega
      have ec : (C != (A + 7) % 256) = false := by
        have h3 := wrap64_mod (i + 1)
        rw [← HI.out] at h3
        simp
        omega
      by_cases h0 : x = 0
      · subst h0
        clear hA hB hC sa sb sc
        go_wp2
        go_quiet (fail)
        go_wp2
        exact ⟨⟨1, by omega, by omega, by go_num, below_drawn hb _⟩, by simp [intOf]⟩
      · have hk0 : 0 < x := by omega
        obtain ⟨q, hq⟩ : ∃ q : Int, x - 1 = q := ⟨x - 1, by omega⟩
        have hq0 : 0 ≤ q := by omega
        have hq1 : q < 16 := by omega
        obtain ⟨A0, hA0⟩ : ∃ A, A = (f * 31 + i * 7 + q) % 256 := ⟨_, rfl⟩
        have xq := fun w => first_index HTA.out q hq0 hq1 w
        rw [← hA0] at xq
        have ea : (A != (A0 + 1) % 256) = false := by
          simp
          omega
        clear hA hB hC hA0 h0 sa sb sc
        go_wp2
        go_quiet (fail)
        go_wp2
        exact ⟨⟨x + 1, by omega, by omega, by go_num, below_drawn hb _⟩, by simp [intOf]; omega⟩
    · go_wp2
      go_ret
      exact ⟨rfl, hb⟩
end Go.Proofs.Ytmemciebpnamkaa
