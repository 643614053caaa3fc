/-
  The law BytesLast, walked: for every input it answers true.
-/
import Derived.Test.YtidjbkjbfblknaaLLastO
import Derived.Test.YtidjbkjbfblknaaLByte
namespace Go.Proofs.Ytidjbkjbfblknaa
open Go.RowKit

set_option maxRecDepth 100000 in
set_option maxHeartbeats 8000000 in
theorem last_in (n k o j : Nat) (a : Option Addr) (cap : Nat) (l : List Rec) (T : List UInt8) (b : UInt8) (w : World) (h2 : n ≤ 100) (hl : l.length ≤ 80) (hk : k < n) (ho' : o < n) (hT : T.length = 16) (hj' : j < 16) (hc : ActsAt w a l) :
    Calls Try.prog 4 #[.int .i64 n, .slice a l.length cap, .int .i64 k, .string ⟨T.toArray⟩, .int .i64 o, .int .i64 j, bv b] w fun e w' => e = .returned (.bool true) ∧ Below w.heap.size w w' := by
  have hsz := text_size T
  rw [hT] at hsz
  obtain ⟨t, ht⟩ : ∃ t : ByteArray, t = ⟨T.toArray⟩ := ⟨_, rfl⟩
  rw [← ht] at hsz ⊢
  have HT : Hid (t = ⟨T.toArray⟩) := ht
  clear ht
  have d1 : decide ((n : Int) < 1) = false := by simp; omega
  have d2 : decide ((100 : Int) < (n : Int)) = false := by simp; omega
  have d3 : decide ((80 : Int) < (l.length : Int)) = false := by simp; omega
  have d4 : decide ((k : Int) < 0) = false := by simp
  have d5 : decide ((n : Int) ≤ (k : Int)) = false := by simp; omega
  have d6 : decide ((o : Int) < 0) = false := by simp
  have d7 : decide ((n : Int) ≤ (o : Int)) = false := by simp; omega
  have d8 : decide ((j : Int) < 0) = false := by simp
  have d9 : decide ((15 : Int) < (j : Int)) = false := by simp; omega
  unfold bv
  go_enter Try.func4, Try.ntmps4
  go_wp2_with (go_at_call 7; refine (works_any _).mono ?_; rintro e w1 ⟨rfl, hb⟩)
  refine (newO n n w w1 hb (Or.inr (Or.inl ⟨rfl, by omega⟩))).mono ?_
  rintro e w2 ⟨s, p, rfl, ho⟩
  clear hb
  go_wp2
  go_loopw [17] (fun i wr => ∃ j : Nat, j ≤ l.length ∧ i = .int .i64 j ∧ ∃ L : List UInt8, Own w wr s p n L) (fun i _ => l.length - (intOf i).toNat)
  case atStart => exact ⟨0, by omega, rfl, _, ho⟩
  case round =>
    clear ho
    obtain ⟨i, hi, rfl, L, ho⟩ := hrel
    by_cases hlt : i < l.length
    · have hcr := hc.below ho.bel
      obtain ⟨bb, off, rfl, hr⟩ := hcr i hlt
      obtain ⟨r, hrr⟩ : ∃ r, r = l[i] := ⟨_, rfl⟩
      rw [← hrr] at hr
      have HR : Hid (wr.rangeAt bb (off + i * 5) (recCells r)) := hr
      clear hrr hr hcr
      go_wp2_with (refine wpList_load_mid rfl 29 (.tmp 85) rfl bb (off + i * 5) rfl (recCells r) _ HR.out Try.underlying29 rfl (size29_of r) ?_)
      refine (doO r ho).mono ?_
      rintro e w4 ⟨rfl, h4⟩
      go_wp2_with fail
      go_roundw
      case rel => exact ⟨i + 1, by omega, by go_num, _, h4⟩
      case measure => simp [intOf]; omega
    · clear hc
      have hL := ho.st.len
      have hkP : hasP n (k : Int) = true := by rw [hasP_nat]; simpa using hk
      have hoP : hasP n (o : Int) = true := by rw [hasP_nat]; simpa using ho'
      have hjP : hasP 16 (j : Int) = true := by rw [hasP_nat]; simpa using hj'
      obtain ⟨L2, hL2⟩ : ∃ L2, L2 = writeL n L k T := ⟨_, rfl⟩
      have hL2l : L2.length = n * 16 := by rw [hL2]; exact writeL_len hL
      obtain ⟨L3, hL3⟩ : ∃ L3, L3 = putL n L2 k j b := ⟨_, rfl⟩
      obtain ⟨tW, hW⟩ : ∃ t, t = readT n L o := ⟨_, rfl⟩
      obtain ⟨tY, hY⟩ : ∃ t, t = readT n L2 o := ⟨_, rfl⟩
      obtain ⟨tZ, hZ⟩ : ∃ t, t = readT n L3 k := ⟨_, rfl⟩
      have hpg : pgOf L2 k = T := by rw [hL2, writeL_ok hkP hT]; exact pg_same hL hk hT
      have hz2 : tZ = ⟨(T.set j b).toArray⟩ := by rw [hZ, hL3, read_put hL2l hk hj', hpg]
      have HW : Hid (readT n L o = tW) := hW.symm
      have HY : Hid (readT n L2 o = tY) := hY.symm
      have HZ : Hid (readT n L3 k = tZ) := hZ.symm
      have HX : Hid (readT n L2 k = t) := by rw [hL2, HT.out]; exact read_write_same hL hkP hT
      have HL2 : Hid (writeL n L k T = L2) := hL2.symm
      have HL3 : Hid (putL n L2 k j b = L3) := hL3.symm
      have E1 : Hid (writeE n k T = 0) := writeE_ok hkP hT
      have E2 : Hid (getE n k j = 0) := by show _ = _; simp [getE, hkP, hjP]
      have E3 : Hid (readE n k = 0) := by show _ = _; simp [readE, hkP]
      have E4 : Hid (readE n o = 0) := by show _ = _; simp [readE, hoP]
      have S1 : Hid (((o : Int) != (k : Int)) = false ∨ (((o : Int) != (k : Int)) = true ∧ tY = tW)) := by
        by_cases q : o = k
        · exact Or.inl (by simp [q])
        · refine Or.inr ⟨by simp; omega, ?_⟩
          rw [hY, hW, hL2]
          exact read_write_other hL hkP hT (by omega)
      have hzs : tZ.size = 16 := by rw [hz2, text_size]; simpa using hT
      have Z1 : Hid (∀ h : j < tZ.size, (tZ[j]'h).toNat = b.toNat) := fun h => by
        rw [text_at hz2 j h]; simp [hT, hj']
      have Z2 : Hid (tZ.extract 0 j = t.extract 0 j) := by show _ = _; rw [hz2, HT.out]; exact cut_head T j b
      have Z3 : Hid (tZ.extract (j + 1) 16 = t.extract (j + 1) 16) := by show _ = _; rw [hz2, HT.out]; exact cut_tail T j 16 b
      clear hW hY hZ hz2 hpg hL2 hL3 hL2l hL hkP hoP hjP
      go_wp2_with fail
      refine (readO o ho).mono ?_
      rintro e w3 ⟨rfl, rfl⟩
      rw [HW.out, E4.out]
      go_wp2_with fail
      rw [HT.out]
      refine (writeO k T ho).mono ?_
      rintro e w4 ⟨rfl, h4⟩
      rw [HL2.out] at h4
      rw [E1.out, ← HT.out]
      clear ho
      go_wp2_with fail
      refine (readO k h4).mono ?_
      rintro e w5 ⟨rfl, rfl⟩
      rw [HX.out, E3.out]
      go_wp2_with fail
      refine (readO o h4).mono ?_
      rintro e w5 ⟨rfl, rfl⟩
      rw [HY.out, E4.out]
      have s1 := S1.out
      clear S1 HX HY HW E4 HL2 E1
      rcases s1 with q1 | ⟨q1, rfl⟩
      all_goals
        go_wp2_with fail
        refine (putO k j b h4).mono ?_
        rintro e w6 ⟨rfl, h6⟩
        rw [HL3.out] at h6
        rw [E2.out]
        go_wp2_with fail
        refine (readO k h6).mono ?_
        rintro e w7 ⟨rfl, rfl⟩
        rw [HZ.out, E3.out]
        have z1 := Z1.out
        have z2 := Z2.out
        have z3 := Z3.out
        go_wp2
        go_quiet (fail)
        go_wp2
        go_ret
        exact ⟨rfl, below_drawn h6.bel _⟩

theorem last_walk (x0 : Int) (a1 : Option Addr) (cap1 : Nat) (l1 : List Rec) (x2 : Int) (T3 : List UInt8) (x4 x5 : Int) (b6 : UInt8) (w : World) (t1 : ActsAt w a1 l1) :
    Calls Try.prog 4 #[.int .i64 x0, .slice a1 l1.length cap1, .int .i64 x2, .string ⟨T3.toArray⟩, .int .i64 x4, .int .i64 x5, bv b6] w fun e w' => e = .returned (.bool true) ∧ Below w.heap.size w w' := by
  by_cases h : x0 < 1 ∨ 100 < x0 ∨ 80 < l1.length ∨ x2 < 0 ∨ x0 ≤ x2 ∨ x4 < 0 ∨ x0 ≤ x4 ∨ T3.length ≠ 16 ∨ x5 < 0 ∨ 15 < x5
  · exact last_out x0 a1 cap1 _ x2 T3 x4 x5 b6 w h
  · obtain ⟨n, rfl⟩ := Int.eq_ofNat_of_zero_le (by omega : 0 ≤ x0)
    obtain ⟨k, rfl⟩ := Int.eq_ofNat_of_zero_le (by omega : 0 ≤ x2)
    obtain ⟨o, rfl⟩ := Int.eq_ofNat_of_zero_le (by omega : 0 ≤ x4)
    obtain ⟨j, rfl⟩ := Int.eq_ofNat_of_zero_le (by omega : 0 ≤ x5)
    exact last_in n k o j a1 cap1 l1 T3 b6 w (by omega) (by omega) (by omega) (by omega) (by omega) (by omega) t1
end Go.Proofs.Ytidjbkjbfblknaa
