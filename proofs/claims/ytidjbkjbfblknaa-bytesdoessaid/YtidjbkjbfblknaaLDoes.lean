/-
  The law BytesDoes, walked: for every input it answers true.
-/
import Derived.Test.YtidjbkjbfblknaaR3
namespace Go.Proofs.Ytidjbkjbfblknaa
open Go.RowKit

/-- The program's store and the document's, side by side, and the act that is looked at. -/
structure Both (w0 w : World) (s p r q n : Nat) (L L' : List UInt8) : Prop where
  o : Own w0 w s p n L
  f : RefIs w r q n L'
  lo : w0.heap.size ≤ q
  a1 : r ≠ p
  a2 : q ≠ p
  b1 : s ≠ q
theorem Both.drewN {w0 w : World} {s p r q n : Nat} {L L' : List UInt8} (h : Both w0 w s p r q n L L') (m : Nat) : Both w0 (w.drewN m) s p r q n L L' := ⟨h.o.drewN m, h.f.drewN m, h.lo, h.a1, h.a2, h.b1⟩
theorem Both.left {w0 w w' : World} {s p r q n : Nat} {L L' L2 : List UInt8} (h : Both w0 w s p r q n L L') (hs : StoreIs w' s p n L2) (ha : Apart p w w') : Both w0 w' s p r q n L2 L' :=
  ⟨h.o.turn hs ha, h.f.apart ha h.a1 h.a2, h.lo, h.a1, h.a2, h.b1⟩
theorem Both.right {w0 w w' : World} {s p r q n : Nat} {L L' L2 : List UInt8} (h : Both w0 w s p r q n L L') (hs : RefIs w' r q n L2) (ha : Apart q w w') : Both w0 w' s p r q n L L2 :=
  ⟨⟨h.o.st.apart ha h.b1 (Ne.symm h.a2), h.o.bel.trans (ha.below h.lo h.o.bel.size), h.o.lo⟩, hs, h.lo, h.a1, h.a2, h.b1⟩
theorem Both.grow {w0 w w' : World} {s p r q n : Nat} {L L' : List UInt8} (h : Both w0 w s p r q n L L') (hb : Below w.heap.size w w') : Both w0 w' s p r q n L L' :=
  ⟨⟨h.o.st.below hb h.o.st.lt.1 h.o.st.lt.2, h.o.bel.trans (hb.mono h.o.bel.size), h.o.lo⟩, h.f.below hb h.f.lt.1 h.f.lt.2, h.lo, h.a1, h.a2, h.b1⟩

/-- Beside them lies the act, in a block of its own. -/
structure Trio (w0 w : World) (s p r q n : Nat) (L L' : List UInt8) (b : Nat) (c : Rec) : Prop where
  t : Both w0 w s p r q n L L'
  c : RowAt w b 29 (recCells c)
  n1 : b ≠ p
  n2 : b ≠ q
theorem Trio.left {w0 w w' : World} {s p r q n b : Nat} {L L' L2 : List UInt8} {c : Rec} (h : Trio w0 w s p r q n L L' b c) (hs : StoreIs w' s p n L2) (ha : Apart p w w') : Trio w0 w' s p r q n L2 L' b c :=
  ⟨h.t.left hs ha, h.c.apart ha h.n1, h.n1, h.n2⟩
theorem Trio.right {w0 w w' : World} {s p r q n b : Nat} {L L' L2 : List UInt8} {c : Rec} (h : Trio w0 w s p r q n L L' b c) (hs : RefIs w' r q n L2) (ha : Apart q w w') : Trio w0 w' s p r q n L L2 b c :=
  ⟨h.t.right hs ha, h.c.apart ha h.n2, h.n1, h.n2⟩
theorem Trio.cells {w0 w : World} {s p r q n b : Nat} {L L' : List UInt8} {c : Rec} (h : Trio w0 w s p r q n L L' b c) :
    w.cell? ⟨b, 0, none⟩ = some (.int .i64 c.K) ∧ w.cell? ⟨b, 1, none⟩ = some (.int .i64 c.I) ∧ w.cell? ⟨b, 2, none⟩ = some (.int .i64 c.At) ∧ w.cell? ⟨b, 3, none⟩ = some (.int .u8 (c.B.toNat : Int)) ∧ w.cell? ⟨b, 4, none⟩ = some (.string ⟨c.T.toArray⟩) := by
  refine ⟨?_, ?_, ?_, ?_, ?_⟩ <;> (rw [h.c.cell]; rfl)

section
variable {w0 w : World} {s p r q n b : Nat} {L L' : List UInt8} {c : Rec}
theorem t_write (i : Int) (T : List UInt8) (h : Trio w0 w s p r q n L L' b c) :
    Calls Try.prog 10 #[.pointer (some ⟨r, 0, none⟩), .int .i64 i, .string ⟨T.toArray⟩] w fun e w' => e = .returned (.int .i64 (writeE n i T)) ∧ Trio w0 w' s p r q n L (writeL n L' i T) b c :=
  (rwrite r q n L' i T w h.t.f).mono fun _ _ ⟨x, y, z⟩ => ⟨x, h.right y z⟩
theorem t_put (i j : Int) (v : UInt8) (h : Trio w0 w s p r q n L L' b c) :
    Calls Try.prog 11 #[.pointer (some ⟨r, 0, none⟩), .int .i64 i, .int .i64 j, bv v] w fun e w' => e = .returned (.int .i64 (getE n i j)) ∧ Trio w0 w' s p r q n L (putL n L' i j v) b c :=
  (rput r q n L' i j v w h.t.f).mono fun _ _ ⟨x, y, z⟩ => ⟨x, h.right y z⟩
theorem t_move (i j : Int) (h : Trio w0 w s p r q n L L' b c) :
    Calls Try.prog 12 #[.pointer (some ⟨r, 0, none⟩), .int .i64 i, .int .i64 j] w fun e w' => e = .returned (.int .i64 (moveE n i j)) ∧ Trio w0 w' s p r q n L (moveL n L' i j) b c :=
  (rmove r q n L' i j w h.t.f).mono fun _ _ ⟨x, y, z⟩ => ⟨x, h.right y z⟩
theorem t_clear (i : Int) (h : Trio w0 w s p r q n L L' b c) :
    Calls Try.prog 13 #[.pointer (some ⟨r, 0, none⟩), .int .i64 i] w fun e w' => e = .returned (.int .i64 (writeE n i noughts)) ∧ Trio w0 w' s p r q n L (writeL n L' i noughts) b c :=
  (rclear r q n L' i w h.t.f).mono fun _ _ ⟨x, y, z⟩ => ⟨x, h.right y z⟩
theorem t_do (d : Rec) (h : Trio w0 w s p r q n L L' b c) :
    Calls Try.prog 14 #[.pointer (some ⟨s, 0, none⟩), .agg (recCells d).toArray] w fun e w' => e = .returned (.int .i64 (doE n d)) ∧ Trio w0 w' s p r q n (doL n L d) L' b c :=
  (sdo s p n L d w h.t.o.st).mono fun _ _ ⟨x, y, z⟩ => ⟨x, h.left y z⟩
end

theorem rec_one (c : Rec) : ∀ v ∈ recCells c, v.oneCell' = true := by
  intro v hv
  simp only [recCells, List.mem_cons, List.not_mem_nil, or_false] at hv
  rcases hv with rfl | rfl | rfl | rfl | rfl <;> rfl
theorem act_there (w : World) (z : Array Value) (hz : z.size = 5) (c : Rec) : (w.alloc (.cells z 29)).there w.heap.size 0 (recCells c).toArray.size := by
  intro j hj
  have hj' : j < 5 := hj
  have h := RowAt.new w z 29
  rw [Nat.zero_add]
  refine ⟨?_, h.frozen j⟩
  rw [h.cell, List.getElem?_eq_getElem (by simpa using by omega)]
  rfl
theorem act_laid (w : World) (z : Array Value) (hz : z.size = 5) (c : Rec) :
    RowAt ((w.alloc (.cells z 29)).setCells w.heap.size 0 (recCells c)) w.heap.size 29 (recCells c) ∧ Below w.heap.size w ((w.alloc (.cells z 29)).setCells w.heap.size 0 (recCells c)) := by
  have h := RowAt.new w z 29
  obtain ⟨l⟩ := z
  match l, hz with
  | [a0, a1, a2, a3, a4], _ =>
    have h5 := ((((h.set 0 (.int .i64 c.K)).set 1 (.int .i64 c.I)).set 2 (.int .i64 c.At)).set 3 (bv c.B)).set 4 (.string ⟨c.T.toArray⟩)
    refine ⟨h5, ?_⟩
    have hb := ((((But.setCell w.heap.size 0 (w.alloc (.cells [a0, a1, a2, a3, a4].toArray 29)) (.int .i64 c.K)).trans (But.setCell _ 1 _ (.int .i64 c.I))).trans (But.setCell _ 2 _ (.int .i64 c.At))).trans (But.setCell _ 3 _ (bv c.B))).trans (But.setCell _ 4 _ (.string ⟨c.T.toArray⟩))
    exact (below_alloc w _).trans (hb.below (Nat.le_refl _))

theorem both_new (x : Int) (k : Nat) (w0 w : World) (s p : Nat) (L : List UInt8) (ho : Own w0 w s p k L) (hk : x < 0 ∧ k = 0 ∨ x = k ∧ k ≤ 1024 ∨ 1024 < x ∧ k = 1024) :
    Calls Try.prog 9 #[.int .i64 x] w fun e w' => ∃ r q, e = .returned (.pointer (some ⟨r, 0, none⟩)) ∧ Both w0 w' s p r q k L (List.replicate (k * 16) 0) := by
  refine (rnew x k w hk).mono ?_
  rintro e w' ⟨r, q, h1, h2, h3, h4, h5⟩
  have hlt := ho.st.lt
  have hsz := ho.bel.size
  exact ⟨r, q, h1, ⟨ho.st.below h5 hlt.1 hlt.2, ho.bel.trans (h5.mono hsz), ho.lo⟩, h2, by omega, by omega, by omega, by omega⟩

set_option maxRecDepth 100000 in
set_option maxHeartbeats 2000000 in
theorem does_out (x0 : Int) (a : Option Addr) (cap m : Nat) (x2 x3 : Int) (w : World) (h : (100 < x0 ∧ x0 < 1024) ∨ 80 < m) :
    Calls Try.prog 3 #[.int .i64 x0, .slice a m cap, .int .i64 x2, .int .i64 x3] w fun e w' => e = .returned (.bool true) ∧ Below w.heap.size w w' := by
  by_cases h1 : 100 < x0
  · by_cases h2 : x0 < 1024
    · clear h
      go_enter Try.func3, Try.ntmps3
      go_wp2_with (go_at_call 7; refine (works_any _).mono ?_; rintro e w1 ⟨rfl, hb⟩)
      go_ret
      exact ⟨rfl, hb⟩
    · have h3 : 80 < m := by omega
      clear h
      go_enter Try.func3, Try.ntmps3
      go_wp2_with (go_at_call 7; refine (works_any _).mono ?_; rintro e w1 ⟨rfl, hb⟩)
      go_ret
      exact ⟨rfl, hb⟩
  · have h3 : 80 < m := by omega
    clear h
    go_enter Try.func3, Try.ntmps3
    go_wp2_with (go_at_call 7; refine (works_any _).mono ?_; rintro e w1 ⟨rfl, hb⟩)
    go_ret
    exact ⟨rfl, hb⟩

set_option maxRecDepth 100000 in
set_option maxHeartbeats 8000000 in
theorem does_in (n : Int) (k : Nat) (a : Option Addr) (cap : Nat) (l : List Rec) (x2 x3 : Int) (w : World) (hk : n < 0 ∧ k = 0 ∨ n = k ∧ k ≤ 1024 ∨ 1024 < n ∧ k = 1024) (hs : n ≤ 100 ∨ 1024 ≤ n) (hl : l.length ≤ 80) (hc : ActsAt w a l) :
    Calls Try.prog 3 #[.int .i64 n, .slice a l.length cap, .int .i64 x2, .int .i64 x3] w fun e w' => e = .returned (.bool true) ∧ Below w.heap.size w w' := by
  have hd1 : decide ((80 : Int) < (l.length : Int)) = false := by simp; omega
  have hd2 : (decide (100 < n) && decide (n < 1024)) = false := by simp; omega
  have HK : Hid (n < 0 ∧ k = 0 ∨ n = k ∧ k ≤ 1024 ∨ 1024 < n ∧ k = 1024) := hk
  have hkl : k ≤ 1024 := by omega
  have hs' : n ≤ 100 ∨ (100 < n ∧ 1024 ≤ n) := by omega
  clear hk hs
  go_enter Try.func3, Try.ntmps3
  go_wp2_with fail
  refine (works_any _).mono ?_
  rintro e w1 ⟨rfl, hb⟩
  go_upto_region 4 with fail
  go_cut [27, 28, 29, 30, 31, 32, 33, 34, 35, 36, 37] (fun _ _ _ _ _ _ _ _ _ _ s37 wx => s37 = .bool false ∧ wx = w1)
  case first =>
    clear hd2
    rcases hs' with hs | ⟨hs, hs2⟩
    · go_wp2_with fail
      go_meet
      exact ⟨rfl, rfl⟩
    · have hq : decide (n < 1024) = false := by simp; omega
      go_wp2_with fail
      go_meet
      exact ⟨rfl, rfl⟩
  case rest =>
    obtain ⟨rfl, rfl⟩ := hcut
    clear hs' hd2
    go_wp2_with fail
    refine (newO n k w _ hb HK.out).mono ?_
    rintro e w2 ⟨s, p, rfl, ho⟩
    clear hb
    go_wp2_with fail
    refine (both_new n k w w2 s p _ ho HK.out).mono ?_
    rintro e w3 ⟨r, q, rfl, ht⟩
    clear ho HK
    go_wp2
    go_loopw [12] (fun i wr => ∃ j : Nat, j ≤ l.length ∧ i = .int .i64 j ∧ ∃ L : List UInt8, Both w wr s p r q k L L) (fun i _ => l.length - (intOf i).toNat)
    case atStart => exact ⟨0, by omega, rfl, _, ht⟩
    case round =>
      clear ht
      obtain ⟨j, hj, rfl, L, ht⟩ := hrel
      by_cases hlt : j < l.length
      · have hcr := hc.below ht.o.bel
        obtain ⟨b, off, rfl, hr⟩ := hcr j hlt
        obtain ⟨c, hrr⟩ : ∃ c, c = l[j] := ⟨_, rfl⟩
        rw [← hrr] at hr
        have HR : Hid (wr.rangeAt b (off + j * 5) (recCells c)) := hr
        clear hrr hr hcr
        go_upto_region 11 with fail
        go_cut [13] (fun s13 wx => ∃ b, s13 = .pointer (some ⟨b, 0, none⟩) ∧ Trio w wx s p r q k L L b c)
        case first =>
          go_wp2_with (first | (refine wpList_load_mid rfl 29 (.tmp 51) rfl b (off + j * 5) rfl (recCells c) _ HR.out Try.underlying29 rfl (size29_of c) ?_) | (refine wpList_store_mid rfl 29 (.tmp 13) (.tmp 52) rfl wr.heap.size 0 (recCells c).toArray rfl rfl (act_there wr _ rfl c) size29 (all_oneCell_toArray (rec_one c)) ?_))
          go_meet
          obtain ⟨g1, g2⟩ := act_laid wr #[.int .i64 0, .int .i64 0, .int .i64 0, .int .u8 0, .string ⟨#[]⟩] rfl c
          have l1 := ht.o.st.lt
          have l2 := ht.f.lt
          exact ⟨_, rfl, ht.grow g2, g1, by omega, by omega⟩
        case rest =>
          clear ht HR
          obtain ⟨d, rfl, ht⟩ := hcut
          obtain ⟨c0, c1, c2, c3, c4⟩ := ht.cells
          obtain ⟨K, hK⟩ : ∃ K, K = c.K := ⟨_, rfl⟩
          obtain ⟨I, hI⟩ : ∃ I, I = c.I := ⟨_, rfl⟩
          obtain ⟨A, hA⟩ : ∃ A, A = c.At := ⟨_, rfl⟩
          obtain ⟨B, hB⟩ : ∃ B, B = c.B := ⟨_, rfl⟩
          obtain ⟨T, hT⟩ : ∃ T, T = c.T := ⟨_, rfl⟩
          obtain ⟨t, ht4⟩ : ∃ t : ByteArray, t = ⟨T.toArray⟩ := ⟨_, rfl⟩
          have hcc : c = ⟨K, I, A, B, T⟩ := by rw [hK, hI, hA, hB, hT]
          rw [← hK] at c0
          rw [← hI] at c1
          rw [← hA] at c2
          rw [← hB] at c3
          rw [← hT, ← ht4] at c4
          have HT : Hid (t = ⟨T.toArray⟩) := ht4
          have HCC : Hid (c = ⟨K, I, A, B, T⟩) := hcc
          clear hK hI hA hB hT ht4 hcc
          go_upto_block 2 with fail
          go_cut [14] (fun s14 wx => s14 = .int .i64 (doE k c) ∧ Trio w wx s p r q k L (doL k L c) d c)
          case first =>
            by_cases q0 : K.tmod 4 = 0
            · have hb0 : (K.tmod 4 == 0) = true := by simp [q0]
              have HE : Hid (doE k c = writeE k I T) := by show _ = _; rw [HCC.out]; simp [doE, q0]
              have HL : Hid (doL k L c = writeL k L I T) := by show _ = _; rw [HCC.out]; simp [doL, q0]
              clear q0
              go_wp2_with fail
              rw [HT.out]
              refine (t_write I T ht).mono ?_
              rintro e w4 ⟨rfl, h4⟩
              go_wp2_with fail
              go_meet
              exact ⟨by rw [HE.out], by rw [HL.out]; exact h4⟩
            · have hb0 : (K.tmod 4 == 0) = false := by simp [q0]
              by_cases q1 : K.tmod 4 = 1
              · have hb1 : (K.tmod 4 == 1) = true := by simp [q1]
                have HE : Hid (doE k c = getE k I A) := by show _ = _; rw [HCC.out]; simp [doE, q1]
                have HL : Hid (doL k L c = putL k L I A B) := by show _ = _; rw [HCC.out]; simp [doL, q1]
                clear q0 q1
                go_wp2_with fail
                refine (t_put I A B ht).mono ?_
                rintro e w4 ⟨rfl, h4⟩
                go_wp2_with fail
                go_meet
                exact ⟨by rw [HE.out], by rw [HL.out]; exact h4⟩
              · have hb1 : (K.tmod 4 == 1) = false := by simp [q1]
                by_cases q2 : K.tmod 4 = 2
                · have hb2 : (K.tmod 4 == 2) = true := by simp [q2]
                  have HE : Hid (doE k c = moveE k I A) := by show _ = _; rw [HCC.out]; simp [doE, q2]
                  have HL : Hid (doL k L c = moveL k L I A) := by show _ = _; rw [HCC.out]; simp [doL, q2]
                  clear q0 q1 q2
                  go_wp2_with fail
                  refine (t_move I A ht).mono ?_
                  rintro e w4 ⟨rfl, h4⟩
                  go_wp2_with fail
                  go_meet
                  exact ⟨by rw [HE.out], by rw [HL.out]; exact h4⟩
                · have hb2 : (K.tmod 4 == 2) = false := by simp [q2]
                  by_cases q3 : K.tmod 4 = 3
                  · have hb3 : (K.tmod 4 == 3) = true := by simp [q3]
                    have HE : Hid (doE k c = writeE k I noughts) := by show _ = _; rw [HCC.out]; simp [doE, q3]
                    have HL : Hid (doL k L c = writeL k L I noughts) := by show _ = _; rw [HCC.out]; simp [doL, q3]
                    clear q0 q1 q2 q3
                    go_wp2_with fail
                    refine (t_clear I ht).mono ?_
                    rintro e w4 ⟨rfl, h4⟩
                    go_wp2_with fail
                    go_meet
                    exact ⟨by rw [HE.out], by rw [HL.out]; exact h4⟩
                  · have hb3 : (K.tmod 4 == 3) = false := by simp [q3]
                    have HE : Hid (doE k c = 0) := by show _ = _; rw [HCC.out]; simp [doE, q0, q1, q2, q3]
                    have HL : Hid (doL k L c = L) := by show _ = _; rw [HCC.out]; simp [doL, q0, q1, q2, q3]
                    clear q0 q1 q2 q3
                    go_wp2_with fail
                    go_meet
                    exact ⟨by rw [HE.out], by rw [HL.out]; exact ht⟩
          case rest =>
            clear ht c0 c1 c2 c3 c4 HT
            obtain ⟨rfl, ht⟩ := hcut
            have HR : Hid (∀ w', Trio w w' s p r q k L (doL k L c) d c → w'.rangeAt d 0 (recCells c)) := fun w' h j v hv => by
              rw [Nat.zero_add, h.c.cell]; exact hv
            have HI : Hid (c.I = I) := by show _ = _; rw [HCC.out]
            obtain ⟨E, hE⟩ : ∃ E, E = doE k c := ⟨_, rfl⟩
            have HE : Hid (doE k c = E) := hE.symm
            rw [← hE]
            clear hE HCC
            go_wp2_with (refine wpList_load_mid rfl 29 (.tmp 13) rfl d 0 rfl (recCells c) _ (HR.out _ ht) Try.underlying29 rfl (size29_of c) ?_)
            refine (t_do c ht).mono ?_
            rintro e w4 ⟨rfl, h4⟩
            rw [HE.out]
            obtain ⟨L2, hL2⟩ : ∃ L2, L2 = doL k L c := ⟨_, rfl⟩
            rw [← hL2] at h4
            obtain ⟨tR, hR⟩ : ∃ t, t = readT k L2 x2 := ⟨_, rfl⟩
            obtain ⟨ER, hER⟩ : ∃ t, t = readE k x2 := ⟨_, rfl⟩
            obtain ⟨G, hG⟩ : ∃ t, t = getB k L2 I x3 := ⟨_, rfl⟩
            obtain ⟨EG, hEG⟩ : ∃ t, t = getE k I x3 := ⟨_, rfl⟩
            have hci := h4.cells.2.1
            rw [HI.out] at hci
            have J1 : Hid (readT k L2 x2 = tR) := hR.symm
            have J2 : Hid (readE k x2 = ER) := hER.symm
            have J3 : Hid (getB k L2 I x3 = G) := hG.symm
            have J4 : Hid (getE k I x3 = EG) := hEG.symm
            have e1 : (E != E) = false := by simp
            have e2 : (ER != ER) = false := by simp
            have e3 : (G != G) = false := by simp
            have e4 : (EG != EG) = false := by simp
            clear ht hL2 hR hER hG hEG HR
            go_wp2_with fail
            refine (sread _ _ k L2 x2 _ h4.t.o.st).mono ?_
            rintro e w5 ⟨rfl, rfl⟩
            rw [J1.out, J2.out]
            go_wp2_with fail
            refine (rread _ _ k L2 x2 _ h4.t.f).mono ?_
            rintro e w5 ⟨rfl, rfl⟩
            rw [J1.out, J2.out]
            go_wp2_with fail
            refine (sget _ _ k L2 I x3 _ h4.t.o.st).mono ?_
            rintro e w5 ⟨rfl, rfl⟩
            rw [J3.out, J4.out]
            go_wp2_with fail
            refine (rget _ _ k L2 I x3 _ h4.t.f).mono ?_
            rintro e w5 ⟨rfl, rfl⟩
            rw [J3.out, J4.out]
            clear hci
            go_wp2_with fail
            go_roundw
            case rel => exact ⟨j + 1, by omega, by go_num, L2, h4.t⟩
            case measure => simp [intOf]; omega
      · have HB : Hid (Below w.heap.size w wr) := ht.o.bel
        have hcp := ht.f.cell
        rw [ht.f.len] at hcp
        have hdv := tdiv16 k
        obtain ⟨M, hM⟩ : ∃ M, M = k * 16 := ⟨_, rfl⟩
        rw [← hM] at hcp hdv
        have H6 : Hid (∀ w, StoreIs w s p k L → Calls Try.prog 19 #[.pointer (some ⟨s, 0, none⟩)] w fun e w' => e = .returned (.int .i64 k) ∧ w' = w) := fun w h => slen _ _ k L w h
        have hst := ht.o.st
        have e6 : ((k : Int) == (k : Int)) = true := by simp
        clear ht hc hM
        go_wp2
        go_quiet ((go_at_call 19; exact (H6.out _ (hst.drewN _)).mono fun e w' h => ⟨h.1, _, h.2⟩))
        go_wp2
        go_ret
        exact ⟨rfl, below_drawn HB.out _⟩

theorem does_walk (x0 : Int) (a1 : Option Addr) (cap1 : Nat) (l1 : List Rec) (x2 x3 : Int) (w : World) (t1 : ActsAt w a1 l1) :
    Calls Try.prog 3 #[.int .i64 x0, .slice a1 l1.length cap1, .int .i64 x2, .int .i64 x3] w fun e w' => e = .returned (.bool true) ∧ Below w.heap.size w w' := by
  by_cases h : (100 < x0 ∧ x0 < 1024) ∨ 80 < l1.length
  · exact does_out x0 a1 cap1 _ x2 x3 w h
  · by_cases h0 : x0 < 0
    · exact does_in x0 0 a1 cap1 l1 x2 x3 w (Or.inl ⟨h0, rfl⟩) (by omega) (by omega) t1
    · by_cases h5 : x0 ≤ 1024
      · exact does_in x0 x0.toNat a1 cap1 l1 x2 x3 w (Or.inr (Or.inl ⟨by omega, by omega⟩)) (by omega) (by omega) t1
      · exact does_in x0 1024 a1 cap1 l1 x2 x3 w (Or.inr (Or.inr ⟨by omega, rfl⟩)) (by omega) (by omega) t1
end Go.Proofs.Ytidjbkjbfblknaa
