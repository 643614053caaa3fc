/-
  The law BytesMoves, walked: for every input it answers true.
-/
import Derived.Test.YtidjbkjbfblknaaPage
namespace Go.Proofs.Ytidjbkjbfblknaa
open Go.RowKit

set_option maxRecDepth 100000 in
set_option maxHeartbeats 1000000 in
theorem moves_out (x0 : Int) (a : Option Addr) (cap m : Nat) (x2 x3 x4 : Int) (w : World) (h : x0 < 1 ∨ 100 < x0 ∨ 80 < m) :
    Calls Try.prog 5 #[.int .i64 x0, .slice a m cap, .int .i64 x2, .int .i64 x3, .int .i64 x4] w fun e w' => e = .returned (.bool true) ∧ Below w.heap.size w w' := by
  by_cases h1 : x0 < 1
  · clear h
    go_enter Try.func5, Try.ntmps5
    go_wp2_with (go_at_call 7; refine (works_any _).mono ?_; rintro e w1 ⟨rfl, hb⟩)
    go_ret
    exact ⟨rfl, hb⟩
  · by_cases h2 : 100 < x0
    · clear h
      go_enter Try.func5, Try.ntmps5
      go_wp2_with (go_at_call 7; refine (works_any _).mono ?_; rintro e w1 ⟨rfl, hb⟩)
      go_ret
      exact ⟨rfl, hb⟩
    · have h3 : 80 < m := by omega
      clear h
      go_enter Try.func5, Try.ntmps5
      go_wp2_with (go_at_call 7; refine (works_any _).mono ?_; rintro e w1 ⟨rfl, hb⟩)
      go_ret
      exact ⟨rfl, hb⟩

set_option maxRecDepth 100000 in
set_option maxHeartbeats 8000000 in
theorem moves_in (n : Nat) (a : Option Addr) (cap : Nat) (l : List Rec) (fr dt ot : Int) (w : World) (h1 : 1 ≤ n) (h2 : n ≤ 100) (hl : l.length ≤ 80) (hc : ActsAt w a l) :
    Calls Try.prog 5 #[.int .i64 n, .slice a l.length cap, .int .i64 fr, .int .i64 dt, .int .i64 ot] w fun e w' => e = .returned (.bool true) ∧ Below w.heap.size w w' := by
  have d1 : decide ((n : Int) < 1) = false := by simp; omega
  have d2 : decide ((100 : Int) < (n : Int)) = false := by simp; omega
  have d3 : decide ((80 : Int) < (l.length : Int)) = false := by simp; omega
  go_enter Try.func5, Try.ntmps5
  go_wp2_with fail
  refine (works_any _).mono ?_
  rintro e w1 ⟨rfl, hb⟩
  go_wp2_with fail
  refine (newO n n w w1 hb (Or.inr (Or.inl ⟨rfl, by omega⟩))).mono ?_
  rintro e w2 ⟨s, p, rfl, ho⟩
  clear hb
  go_wp2
  go_loopw [13] (fun i wr => ∃ j : Nat, j ≤ l.length ∧ i = .int .i64 j ∧ ∃ L : List UInt8, Own w wr s p n L) (fun i _ => l.length - (intOf i).toNat)
  case atStart => exact ⟨0, by omega, rfl, _, ho⟩
  case round =>
    clear ho
    obtain ⟨j, hj, rfl, L, ho⟩ := hrel
    by_cases hlt : j < l.length
    · have hcr := hc.below ho.bel
      obtain ⟨b, off, rfl, hr⟩ := hcr j hlt
      obtain ⟨r, hrr⟩ : ∃ r, r = l[j] := ⟨_, rfl⟩
      rw [← hrr] at hr
      have HR : Hid (wr.rangeAt b (off + j * 5) (recCells r)) := hr
      clear hrr hr hcr
      go_wp2_with (refine wpList_load_mid rfl 29 (.tmp 54) rfl b (off + j * 5) rfl (recCells r) _ HR.out Try.underlying29 rfl (size29_of r) ?_)
      refine (doO r ho).mono ?_
      rintro e w4 ⟨rfl, h4⟩
      go_wp2_with fail
      go_roundw
      case rel => exact ⟨j + 1, by omega, by go_num, _, h4⟩
      case measure => simp [intOf]; omega
    · clear hc
      have hL := ho.st.len
      obtain ⟨tA, hA⟩ : ∃ t, t = readT n L fr := ⟨_, rfl⟩
      obtain ⟨tB, hB⟩ : ∃ t, t = readT n L ot := ⟨_, rfl⟩
      obtain ⟨tC, hC⟩ : ∃ t, t = readT n L dt := ⟨_, rfl⟩
      cases hp : (hasP n fr && hasP n dt) with
      | false =>
        obtain ⟨m1, m2⟩ := read_move_no (L := L) hp
        have HA : Hid (readT n L fr = tA) := hA.symm
        have HB : Hid (readT n L ot = tB) := hB.symm
        have HC : Hid (readT n L dt = tC) := hC.symm
        have M1 : Hid (moveL n L fr dt = L) := m1
        have M2 : Hid (moveE n fr dt = 1) := m2
        have hsplit : (readE n fr = 1) ∨ (readE n fr = 0 ∧ readE n dt = 1) := by
          cases q1 : hasP n fr with
          | false => exact Or.inl (by simp [readE, q1])
          | true =>
            rw [q1] at hp
            exact Or.inr ⟨by simp [readE, q1], by simp at hp; simp [readE, hp]⟩
        clear hA hB hC m1 m2 hp hL
        obtain ⟨E1, hE1⟩ : ∃ E, E = readE n fr := ⟨_, rfl⟩
        obtain ⟨E2, hE2⟩ : ∃ E, E = readE n dt := ⟨_, rfl⟩
        obtain ⟨E3, hE3⟩ : ∃ E, E = readE n ot := ⟨_, rfl⟩
        have H1 : Hid (readE n fr = E1) := hE1.symm
        have H2 : Hid (readE n dt = E2) := hE2.symm
        have H3 : Hid (readE n ot = E3) := hE3.symm
        rw [← hE1, ← hE2] at hsplit
        clear hE1 hE2 hE3
        rcases hsplit with rfl | ⟨rfl, rfl⟩
        all_goals
          go_wp2_with fail
          refine (readO fr ho).mono ?_
          rintro e w3 ⟨rfl, rfl⟩
          rw [HA.out, H1.out]
          go_wp2_with fail
          refine (readO ot ho).mono ?_
          rintro e w3 ⟨rfl, rfl⟩
          rw [HB.out, H3.out]
          go_wp2_with fail
          refine (readO dt ho).mono ?_
          rintro e w3 ⟨rfl, rfl⟩
          rw [HC.out, H2.out]
          go_wp2_with fail
          refine (moveO fr dt ho).mono ?_
          rintro e w4 ⟨rfl, h4⟩
          rw [M1.out] at h4
          rw [M2.out]
          go_wp2_with fail
          refine (readO dt h4).mono ?_
          rintro e w5 ⟨rfl, rfl⟩
          rw [HC.out, H2.out]
          go_wp2_with fail
          refine (readO fr h4).mono ?_
          rintro e w5 ⟨rfl, rfl⟩
          rw [HA.out, H1.out]
          go_wp2_with fail
          refine (readO ot h4).mono ?_
          rintro e w5 ⟨rfl, rfl⟩
          rw [HB.out, H3.out]
          go_wp2_with fail
          go_ret
          exact ⟨rfl, h4.bel⟩
      | true =>
        obtain ⟨p1, p2⟩ : hasP n fr = true ∧ hasP n dt = true := by simpa using hp
        obtain ⟨L', hL'⟩ : ∃ L', L' = moveL n L fr dt := ⟨_, rfl⟩
        obtain ⟨tN, hN⟩ : ∃ t : ByteArray, t = ⟨noughts.toArray⟩ := ⟨_, rfl⟩
        obtain ⟨tY, hY⟩ : ∃ t, t = readT n L' fr := ⟨_, rfl⟩
        obtain ⟨tZ, hZ⟩ : ∃ t, t = readT n L' ot := ⟨_, rfl⟩
        have M2 : Hid (moveE n fr dt = 0) := moveE_ok p1 p2
        have HL : Hid (moveL n L fr dt = L') := hL'.symm
        have HA : Hid (readT n L fr = tA) := hA.symm
        have HB : Hid (readT n L ot = tB) := hB.symm
        have HC : Hid (readT n L dt = tC) := hC.symm
        have HX : Hid (readT n L' dt = tA) := by rw [hL', hA]; exact read_move_to hL p1 p2
        have HY : Hid (readT n L' fr = tY) := hY.symm
        have HZ : Hid (readT n L' ot = tZ) := hZ.symm
        have HN : Hid ((⟨noughts.toArray⟩ : ByteArray) = tN) := hN.symm
        have S1 : Hid ((fr == dt) = true ∨ ((fr == dt) = false ∧ tY = tN)) := by
          by_cases q : fr = dt
          · exact Or.inl (by simpa using q)
          · exact Or.inr ⟨by simpa using q, by rw [hY, hL', hN]; exact read_move_from hL p1 p2 q⟩
        have S2 : Hid ((ot == fr) = true ∨ ((ot == fr) = false ∧ (ot == dt) = true) ∨ ((ot == fr) = false ∧ (ot == dt) = false ∧ tZ = tB)) := by
          by_cases q : ot = fr
          · exact Or.inl (by simpa using q)
          · by_cases q' : ot = dt
            · exact Or.inr (Or.inl ⟨by simpa using q, by simpa using q'⟩)
            · exact Or.inr (Or.inr ⟨by simpa using q, by simpa using q', by rw [hZ, hL', hB]; exact read_move_other hL p1 p2 q q'⟩)
        have H1 : Hid (readE n fr = 0) := by show _ = _; simp [readE, p1]
        have H2 : Hid (readE n dt = 0) := by show _ = _; simp [readE, p2]
        obtain ⟨E3, hE3⟩ : ∃ E, E = readE n ot := ⟨_, rfl⟩
        have H3 : Hid (readE n ot = E3) := hE3.symm
        clear hA hB hC hp hL p1 p2 hL' hN hY hZ hE3
        go_wp2_with fail
        refine (readO fr ho).mono ?_
        rintro e w3 ⟨rfl, rfl⟩
        rw [HA.out, H1.out]
        go_wp2_with fail
        refine (readO ot ho).mono ?_
        rintro e w3 ⟨rfl, rfl⟩
        rw [HB.out, H3.out]
        go_wp2_with fail
        refine (readO dt ho).mono ?_
        rintro e w3 ⟨rfl, rfl⟩
        rw [HC.out, H2.out]
        go_wp2_with fail
        refine (moveO fr dt ho).mono ?_
        rintro e w4 ⟨rfl, h4⟩
        rw [HL.out] at h4
        rw [M2.out]
        clear ho
        go_wp2_with fail
        refine (readO dt h4).mono ?_
        rintro e w5 ⟨rfl, rfl⟩
        rw [HX.out, H2.out]
        go_wp2_with fail
        refine (readO fr h4).mono ?_
        rintro e w5 ⟨rfl, rfl⟩
        rw [HY.out, H1.out]
        go_wp2_with fail
        refine (readO ot h4).mono ?_
        rintro e w5 ⟨rfl, rfl⟩
        rw [HZ.out, H3.out]
        have s1 := S1.out
        have s2 := S2.out
        clear HX HY HZ S1 S2 HA HB HC HL M2 H1 H2 H3
        rcases s1 with q1 | ⟨q1, rfl⟩
        all_goals
          rcases s2 with q2 | ⟨q2, q3⟩ | ⟨q2, q3, rfl⟩
          all_goals
            go_wp2_with (at_make; refine wpList_make_row _ rfl (.const (.int .i64 16)) (.const (.int .i64 16)) 41 rfl 5 (.int .u8 0) 1 Try.underlying41 info5z rfl .i64 .i64 _ _ 16 rfl rfl rfl rfl (by omega) (by omega) ?_; intro w9 hr hz hb9; have hcv := nought_conv hr; rw [HN.out] at hcv)
            go_ret
            exact ⟨rfl, h4.bel.trans (hb9.mono h4.bel.size)⟩

theorem moves_walk (x0 : Int) (a1 : Option Addr) (cap1 : Nat) (l1 : List Rec) (x2 x3 x4 : Int) (w : World) (t1 : ActsAt w a1 l1) :
    Calls Try.prog 5 #[.int .i64 x0, .slice a1 l1.length cap1, .int .i64 x2, .int .i64 x3, .int .i64 x4] w fun e w' => e = .returned (.bool true) ∧ Below w.heap.size w w' := by
  by_cases h : x0 < 1 ∨ 100 < x0 ∨ 80 < l1.length
  · exact moves_out x0 a1 cap1 _ x2 x3 x4 w h
  · obtain ⟨n, rfl⟩ := Int.eq_ofNat_of_zero_le (by omega : 0 ≤ x0)
    exact moves_in n a1 cap1 l1 x2 x3 x4 w (by omega) (by omega) (by omega) t1
end Go.Proofs.Ytidjbkjbfblknaa
