/-
  The law BitsPacks, walked: for every input it answers true.
-/
import Derived.Test.YtnhlafifmiiliaaDoorRef4
namespace Go.Proofs.YtnhlafifmiiliaaDoor
open Go.RowKit

theorem packs_long (a a' : Option Addr) (cap cap' n m : Nat) (x : Nat) (w : World) (hT : Tab w) (hn : n ≤ 9223372036854775807) (hm : m ≤ 9223372036854775807) (h : 100 < n ∨ 100 < m) :
    Calls Tryd.prog 4 #[.slice a n cap, .slice a' m cap', .int .u64 x] w fun e w' => e = .returned (.bool true) ∧ Below w.heap.size w w' := by
  by_cases h1 : 100 < n
  · go_enter Tryd.func4, Tryd.ntmps4
    go_wp2_with (go_at_call 11; refine (works_any _ hT).mono ?_; rintro e w1 ⟨rfl, hb⟩)
    go_ret
    exact ⟨rfl, hb⟩
  · have h2 : 100 < m := by omega
    clear h
    go_enter Tryd.func4, Tryd.ntmps4
    go_wp2_with (go_at_call 11; refine (works_any _ hT).mono ?_; rintro e w1 ⟨rfl, hb⟩)
    go_ret
    exact ⟨rfl, hb⟩

/-- Both packs answer alike. -/
theorem packs_alike (a a' : Option Addr) (cap cap' : Nat) (ws vs : List Int) (hn : ws.length ≤ 100) (hi : I64s vs) :
    ∃ (Y : Nat) (ey : Int), (∀ w, IntsAt w a ws → IntsAt w a' vs → Calls Tryd.prog 23 #[.slice a ws.length cap, .slice a' vs.length cap'] w fun e w' => e = .returned (.tuple #[.int .u64 Y, .int .i64 ey]) ∧ w' = w) ∧
      (∀ w, IntsAt w a ws → IntsAt w a' vs → Calls Tryd.prog 24 #[.slice a ws.length cap, .slice a' vs.length cap'] w fun e w' => e = .returned (.tuple #[.int .u64 Y, .int .i64 ey]) ∧ ∃ n, w' = w.drewN n) := by
  by_cases h : ws.length = vs.length ∧ SpanOk ws ∧ Fit ws vs
  · exact ⟨packVal ws vs, 0, fun w h1 h2 => pack_yes a a' cap cap' ws vs w (by omega) h.1 h1 h2 hi h.2.1 h.2.2, fun w h1 h2 => refPack_yes a a' cap cap' ws vs w (by omega) h.1 h1 h2 hi h.2.1 h.2.2⟩
  · exact ⟨0, 1, fun w h1 h2 => pack_no a a' cap cap' ws vs w (by omega) h1 h2 hi h, fun w h1 h2 => refPack_no a a' cap cap' ws vs w (by omega) h1 h2 hi h⟩

/-- Both unpacks answer alike. -/
theorem unpacks_alike (a : Option Addr) (cap : Nat) (ws : List Int) (x : Nat) (hn : ws.length ≤ 100) (hx : x < 18446744073709551616) :
    ∃ (L : List Int) (eu : Int), L.length ≤ 100 ∧ (∀ w, IntsAt w a ws → Calls Tryd.prog 25 #[.slice a ws.length cap, .int .u64 x] w fun e w' => (∃ u c, e = .returned (.tuple #[.slice u L.length c, .int .i64 eu]) ∧ IntsAt w' u L) ∧ Below w.heap.size w w') ∧
      (∀ w, IntsAt w a ws → Calls Tryd.prog 26 #[.slice a ws.length cap, .int .u64 x] w fun e w' => (∃ u c, e = .returned (.tuple #[.slice u L.length c, .int .i64 eu]) ∧ IntsAt w' u L) ∧ Below w.heap.size w w') := by
  by_cases h : SpanOk ws ∧ x / 2 ^ ws.sum.toNat = 0
  · refine ⟨unpackVals ws x, 0, by rw [unpack_len]; exact hn, fun w hc => ?_, fun w hc => ?_⟩
    · refine (unpack_yes a cap ws x w (by omega) hc h.1 hx h.2).mono ?_
      rintro e w' ⟨rfl, h1, h2⟩
      exact ⟨⟨_, _, by rw [unpack_len], h1⟩, h2⟩
    · refine (refUnpack_yes a cap ws x w hn hc hx h).mono ?_
      rintro e w' ⟨u, c, rfl, h1, h2⟩
      exact ⟨⟨_, _, by rw [unpack_len], h1⟩, h2⟩
  · refine ⟨[], 1, by simp, fun w hc => ?_, fun w hc => ?_⟩
    · refine (unpack_no a cap ws x w (by omega) hc h).mono ?_
      rintro e w' ⟨rfl, rfl⟩
      exact ⟨⟨none, 0, rfl, IntsAt.nil _ _⟩, Below.refl _ _⟩
    · refine (refUnpack_no a cap ws x w hn hc hx h).mono ?_
      rintro e w' ⟨rfl, h2⟩
      exact ⟨⟨none, 0, rfl, IntsAt.nil _ _⟩, h2⟩

set_option maxHeartbeats 2000000 in
theorem packs_short (a a' : Option Addr) (cap cap' : Nat) (ws vs : List Int) (x : Nat) (w : World) (hT : Tab w) (hx : x < 18446744073709551616) (hn : ws.length ≤ 100) (hm : vs.length ≤ 100)
    (hc : IntsAt w a ws) (hc' : IntsAt w a' vs) (hi : I64s vs) :
    Calls Tryd.prog 4 #[.slice a ws.length cap, .slice a' vs.length cap', .int .u64 x] w fun e w' => e = .returned (.bool true) ∧ Below w.heap.size w w' := by
  have hd1 : decide ((100 : Int) < (ws.length : Int)) = false := by simp; omega
  have hd2 : decide ((100 : Int) < (vs.length : Int)) = false := by simp; omega
  obtain ⟨Y, ey, hk1, hk2⟩ := packs_alike a a' cap cap' ws vs hn hi
  obtain ⟨L, eu, hL, hu1, hu2⟩ := unpacks_alike a cap ws x hn hx
  have HK1 := (show Hid _ from hk1)
  have HK2 := (show Hid _ from hk2)
  have HU1 := (show Hid _ from hu1)
  have HU2 := (show Hid _ from hu2)
  have hYY : ((Y : Int) == (Y : Int)) = true := by simp
  have hey : (ey == ey) = true := by simp
  have heu : (eu == eu) = true := by simp
  clear hk1 hk2 hu1 hu2 hi
  go_enter Tryd.func4, Tryd.ntmps4
  go_wp2_with fail
  refine (works_any _ hT).mono ?_
  rintro e w1 ⟨rfl, hb⟩
  have hc1 := hc.below hb
  have hc1' := hc'.below hb
  clear hc hc' hT
  go_wp2_with fail
  refine (HK1.out _ hc1 hc1').mono ?_
  rintro e w1 ⟨rfl, rfl⟩
  go_wp2_with fail
  refine (HK2.out _ hc1 hc1').mono ?_
  rintro e w2 ⟨rfl, nq, rfl⟩
  have hc2 := hc1.drewN nq
  have hB2 := below_drawn hb nq
  clear hc1 hc1' hb
  generalize w1.drewN nq = w2 at *
  go_wp2_with fail
  refine (HU1.out _ hc2).mono ?_
  rintro e w3 ⟨⟨u3, c3, rfl, hv3⟩, hb3⟩
  have hc3 := hc2.below hb3
  have hB3 := hB2.trans (hb3.mono hB2.size)
  clear hc2 hb3 hB2
  go_wp2_with fail
  refine (HU2.out _ hc3).mono ?_
  rintro e w4 ⟨⟨u4, c4, rfl, hv4⟩, hb4⟩
  have hv34 := hv3.below hb4
  have hB4 := hB3.trans (hb4.mono hB3.size)
  clear hc3 hb4 hB3 hv3
  go_wp2_with fail
  refine (same_yes _ _ _ _ L _ (by omega) hv34 hv4).mono ?_
  rintro e w5 ⟨rfl, nr, rfl⟩
  have hB5 := below_drawn hB4 nr
  clear hv34 hv4 hB4
  generalize w4.drewN nr = w5 at *
  go_wp2_with fail
  go_ret
  exact ⟨rfl, hB5⟩

theorem packs_walk (a0 : Option Addr) (cap0 : Nat) (l0 : List Int) (a1 : Option Addr) (cap1 : Nat) (l1 : List Int) (x2 : Int) (w : World) (hT : Tab w)
    (t0 : IntsAt w a0 l0) (_ : I64s l0) (n0 : l0.length * 8 ≤ 140737488351232) (_ : a0 = none → cap0 = 0) (t1 : IntsAt w a1 l1) (i1 : I64s l1) (n1 : l1.length * 8 ≤ 140737488351232) (_ : a1 = none → cap1 = 0) (w2 : 0 ≤ x2 ∧ x2 ≤ 18446744073709551615) :
    Calls Tryd.prog 4 #[.slice a0 l0.length cap0, .slice a1 l1.length cap1, .int .u64 x2] w fun e w' => e = .returned (.bool true) ∧ Below w.heap.size w w' := by
  obtain ⟨x, rfl⟩ := Int.eq_ofNat_of_zero_le w2.1
  by_cases h : 100 < l0.length ∨ 100 < l1.length
  · exact packs_long a0 a1 cap0 cap1 _ _ x w hT (by omega) (by omega) h
  · exact packs_short a0 a1 cap0 cap1 l0 l1 x w hT (by omega) (by omega) (by omega) t0 t1 i1

end Go.Proofs.YtnhlafifmiiliaaDoor
