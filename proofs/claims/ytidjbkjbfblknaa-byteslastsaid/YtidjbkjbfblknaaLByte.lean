/-
  The law BytesByte, walked: for every input it answers true.
-/
import Derived.Test.YtidjbkjbfblknaaOwn
namespace Go.Proofs.Ytidjbkjbfblknaa
open Go.RowKit

set_option maxHeartbeats 1000000 in
theorem byte_out (x0 : Int) (a : Option Addr) (cap m : Nat) (x2 : Int) (w : World) (h : x0 < 1 ∨ 100 < x0 ∨ 80 < m ∨ x2 < 0 ∨ x0 ≤ x2) :
    Calls Try.prog 6 #[.int .i64 x0, .slice a m cap, .int .i64 x2] w fun e w' => e = .returned (.bool true) ∧ Below w.heap.size w w' := by
  by_cases h1 : x0 < 1
  · clear h
    go_enter Try.func6, Try.ntmps6
    go_wp2_with (go_at_call 7; refine (works_any _).mono ?_; rintro e w1 ⟨rfl, hb⟩)
    go_ret
    exact ⟨rfl, hb⟩
  · by_cases h2 : 100 < x0
    · clear h
      go_enter Try.func6, Try.ntmps6
      go_wp2_with (go_at_call 7; refine (works_any _).mono ?_; rintro e w1 ⟨rfl, hb⟩)
      go_ret
      exact ⟨rfl, hb⟩
    · by_cases h3 : 80 < m
      · clear h
        go_enter Try.func6, Try.ntmps6
        go_wp2_with (go_at_call 7; refine (works_any _).mono ?_; rintro e w1 ⟨rfl, hb⟩)
        go_ret
        exact ⟨rfl, hb⟩
      · by_cases h4 : x2 < 0
        · clear h
          go_enter Try.func6, Try.ntmps6
          go_wp2_with (go_at_call 7; refine (works_any _).mono ?_; rintro e w1 ⟨rfl, hb⟩)
          go_ret
          exact ⟨rfl, hb⟩
        · have h5 : x0 ≤ x2 := by omega
          clear h
          go_enter Try.func6, Try.ntmps6
          go_wp2_with (go_at_call 7; refine (works_any _).mono ?_; rintro e w1 ⟨rfl, hb⟩)
          go_ret
          exact ⟨rfl, hb⟩

theorem text_at {T : List UInt8} {t : ByteArray} (ht : t = ⟨T.toArray⟩) (i : Nat) (h : i < t.size) : t[i] = T.getD i 0 := by
  subst ht
  have hi : i < T.length := by rw [text_size] at h; exact h
  show T.toArray[i] = _
  simp [hi]
theorem pgOf_at (L : List UInt8) (k i : Nat) (hi : i < 16) : (pgOf L k).getD i 0 = L.getD (k * 16 + i) 0 := by
  simp [pgOf, hi, List.getElem?_drop]

set_option maxHeartbeats 4000000 in
theorem byte_in (n k : Nat) (a : Option Addr) (cap : Nat) (l : List Rec) (w : World) (h1 : 1 ≤ n) (h2 : n ≤ 100) (hl : l.length ≤ 80) (hk : k < n) (hc : ActsAt w a l) :
    Calls Try.prog 6 #[.int .i64 n, .slice a l.length cap, .int .i64 k] w fun e w' => e = .returned (.bool true) ∧ Below w.heap.size w w' := by
  have d1 : decide ((n : Int) < 1) = false := by simp; omega
  have d2 : decide ((100 : Int) < (n : Int)) = false := by simp; omega
  have d3 : decide ((80 : Int) < (l.length : Int)) = false := by simp; omega
  have d4 : decide ((k : Int) < 0) = false := by simp
  go_enter Try.func6, Try.ntmps6
  go_wp2_with fail
  refine (works_any _).mono ?_
  rintro e w1 ⟨rfl, hb⟩
  go_wp2_with fail
  refine (newO n n w w1 hb (Or.inr (Or.inl ⟨rfl, by omega⟩))).mono ?_
  rintro e w2 ⟨s, p, rfl, ho⟩
  clear hb
  go_wp2
  go_loopw [9] (fun i wr => ∃ j : Nat, j ≤ l.length ∧ i = .int .i64 j ∧ ∃ L : List UInt8, Own w wr s p n L) (fun i _ => l.length - (intOf i).toNat)
  case atStart => exact ⟨0, by omega, rfl, _, ho⟩
  case round =>
    clear ho
    obtain ⟨j, hj, rfl, L, ho⟩ := hrel
    by_cases hlt : j < l.length
    · have hcr := hc.below ho.bel
      obtain ⟨b, off, rfl, hr⟩ := hcr j hlt
      obtain ⟨r, hrr⟩ : ∃ r, r = l[j] := ⟨_, rfl⟩
      rw [← hrr] at hr
      have HR : Hid (wr.rangeAt b (off + j * 5) (recCells r)) := hr
      clear hrr hr hcr
      go_wp2_with (refine wpList_load_mid rfl 29 (.tmp 50) rfl b (off + j * 5) rfl (recCells r) _ HR.out Try.underlying29 rfl (size29_of r) ?_)
      refine (doO r ho).mono ?_
      rintro e w4 ⟨rfl, h4⟩
      go_wp2_with fail
      go_roundw
      case rel => exact ⟨j + 1, by omega, by go_num, _, h4⟩
      case measure => simp [intOf]; omega
    · clear hc
      go_wp2_with fail
      refine (readO k ho).mono ?_
      rintro e w3 ⟨rfl, rfl⟩
      have hkP : hasP n (k : Int) = true := by rw [hasP_nat]; simpa using hk
      obtain ⟨t, ht⟩ : ∃ t, t = readT n L k := ⟨_, rfl⟩
      have hT : t = ⟨(pgOf L k).toArray⟩ := by rw [ht]; simp [readT, hkP]
      have hts : t.size = 16 := by rw [hT, text_size]; exact pgOf_len ho.st.len hk
      have hre : readE n (k : Int) = 0 := by simp [readE, hkP]
      rw [← ht, hre]
      have HT : Hid (t = ⟨(pgOf L k).toArray⟩) := hT
      clear ht hT hre
      go_wp2_with fail
      go_loop [12] (fun i => ∃ x : Int, -1 ≤ x ∧ x ≤ 17 ∧ i = .int .i64 x) (fun i => (17 - intOf i).toNat)
      case atStart => exact ⟨-1, by omega, by omega, rfl⟩
      case round =>
        obtain ⟨x, hx1, hx2, rfl⟩ := hrel
        by_cases hx17 : x = 17
        · subst hx17
          go_wp2_with fail
          go_ret
          exact ⟨rfl, ho.bel⟩
        · by_cases hx0 : x < 0 ∨ 15 < x
          · have HP : hasP 16 x = false := by simp [hasP]; omega
            have HB : Hid (getB n L k x = 0) := by show _ = _; simp [getB, HP]
            have HE : Hid (getE n k x = 1) := by show _ = _; simp [getE, HP]
            clear HP
            rcases hx0 with hx0 | hx0
            · go_wp2_with fail
              refine (getO k x ho).mono ?_
              rintro e w5 ⟨rfl, rfl⟩
              rw [HB.out, HE.out]
              go_wp2_with fail
              go_round
              case rel => exact ⟨x + 1, by omega, by omega, by go_num⟩
              case measure => simp [intOf]; omega
            · go_wp2_with fail
              refine (getO k x ho).mono ?_
              rintro e w5 ⟨rfl, rfl⟩
              rw [HB.out, HE.out]
              go_wp2_with fail
              go_round
              case rel => exact ⟨x + 1, by omega, by omega, by go_num⟩
              case measure => simp [intOf]; omega
          · have HP : hasP 16 x = true := by simp [hasP]; omega
            have HE : Hid (getE n k x = 0) := by show _ = _; simp [getE, HP, hkP]
            have hx3 : 0 ≤ x := by omega
            have hx4 : x ≤ 15 := by omega
            have hne : ∀ (h : x.toNat < t.size), (getB n L k x != ((t[x.toNat]'h).toNat : Int)) = false := fun h => by
              rw [text_at HT.out x.toNat h, pgOf_at L k _ (by omega)]
              simp [getB, hkP, HP]
            clear hx0 hx17 HP
            go_wp2_with fail
            refine (getO k x ho).mono ?_
            rintro e w5 ⟨rfl, rfl⟩
            rw [HE.out]
            go_wp2_with fail
            go_round
            case rel => exact ⟨x + 1, by omega, by omega, by go_num⟩
            case measure => simp [intOf]; omega

theorem byte_walk (x0 : Int) (a1 : Option Addr) (cap1 : Nat) (l1 : List Rec) (x2 : Int) (w : World) (t1 : ActsAt w a1 l1) :
    Calls Try.prog 6 #[.int .i64 x0, .slice a1 l1.length cap1, .int .i64 x2] w fun e w' => e = .returned (.bool true) ∧ Below w.heap.size w w' := by
  by_cases h : x0 < 1 ∨ 100 < x0 ∨ 80 < l1.length ∨ x2 < 0 ∨ x0 ≤ x2
  · exact byte_out x0 a1 cap1 _ x2 w h
  · obtain ⟨n, rfl⟩ := Int.eq_ofNat_of_zero_le (by omega : 0 ≤ x0)
    obtain ⟨k, rfl⟩ := Int.eq_ofNat_of_zero_le (by omega : 0 ≤ x2)
    exact byte_in n k a1 cap1 l1 w (by omega) (by omega) (by omega) (by omega) t1
end Go.Proofs.Ytidjbkjbfblknaa
