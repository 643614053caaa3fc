/-
  The law RadixLast walked.
-/
import Derived.Test.YtaecacbapeogdaaActs
namespace Go.Proofs.Ytaecacbapeogdaa
open Go.RowKit

set_option maxRecDepth 100000 in
theorem last_out (a : Option Addr) (cap n : Nat) (p x o : Int) (w : World) (h : 80 < n ∨ p < 0 ∨ 65536 ≤ p) :
    Calls Try.prog 4 #[.slice a n cap, .int .i64 p, .int .u64 x, .int .i64 o] w fun e w' => e = .returned (.bool true) ∧ Below w.heap.size w w' := by
  by_cases h1 : 80 < n
  · clear h
    go_enter Try.func4, Try.ntmps4
    go_wp2_with (go_at_call 10; refine (works_any _).mono ?_; rintro e w1 ⟨rfl, hb⟩)
    go_ret
    exact ⟨rfl, hb⟩
  · by_cases h2 : p < 0
    · clear h
      go_enter Try.func4, Try.ntmps4
      go_wp2_with (go_at_call 10; refine (works_any _).mono ?_; rintro e w1 ⟨rfl, hb⟩)
      go_ret
      exact ⟨rfl, hb⟩
    · have h3 : 65536 ≤ p := by omega
      clear h
      go_enter Try.func4, Try.ntmps4
      go_wp2_with (go_at_call 10; refine (works_any _).mono ?_; rintro e w1 ⟨rfl, hb⟩)
      go_ret
      exact ⟨rfl, hb⟩

theorem delI_nat {W : Tab} {p : Nat} (h : p < 65536) : delI W p = delW W p := by
  unfold delI
  rw [isPg_nat h, if_pos rfl, Int.toNat_natCast]
theorem setI_nat {W : Tab} {p : Nat} {x : Int} (h : p < 65536) : setI W p x = setW W p x := by
  unfold setI
  rw [isPg_nat h, if_pos rfl, Int.toNat_natCast]
theorem setE_nat {p : Nat} (h : p < 65536) : setE p = 0 := by unfold setE; rw [isPg_nat h, if_pos rfl]
theorem del_set {W : Tab} {p : Nat} {x : Int} (h : W p = none) : delW (setW W p x) p = W := by
  funext q
  unfold delW setW
  by_cases e : q = p
  · rw [if_pos e, e, h]
  · rw [if_neg e, if_neg e]
theorem get_other {W : Tab} {p : Nat} {x o : Int} (h : o ≠ p) : getX (setW W p x) o = getX W o ∧ getB (setW W p x) o = getB W o := by
  unfold getX getB
  by_cases h0 : 0 ≤ o
  · rw [setW_other W x (show o.toNat ≠ p by omega)]
    exact ⟨rfl, rfl⟩
  · simp [h0]

set_option maxRecDepth 100000 in
set_option maxHeartbeats 4000000 in
theorem last_in (a : Option Addr) (cap : Nat) (l : List Ac) (p : Nat) (x o : Int) (w : World) (hl : l.length ≤ 80) (hp : p < 65536) (hc : ActsAt w a l) :
    Calls Try.prog 4 #[.slice a l.length cap, .int .i64 p, .int .u64 x, .int .i64 o] w fun e w' => e = .returned (.bool true) ∧ Below w.heap.size w w' := by
  have d1 : decide ((80 : Int) < (l.length : Int)) = false := by simp; omega
  go_enter Try.func4, Try.ntmps4
  go_wp2_with fail
  refine (works_any _).mono ?_
  rintro e w1 ⟨rfl, hb1⟩
  go_wp2_with fail
  refine (newT hb1).mono ?_
  rintro e w2 ⟨t, rfl, h2, -⟩
  clear hb1 d1
  go_wp2
  go_loopw [11] (fun s11 wr => ∃ (j : Nat) (W : Tab) (n m : Nat), j ≤ l.length ∧ s11 = .int .i64 j ∧ n ≤ j ∧ Tb w wr t W n m) (fun s11 _ => l.length - (intOf s11).toNat)
  case atStart => exact ⟨0, noT, 0, 0, by omega, rfl, by omega, h2⟩
  case round =>
    clear h2
    obtain ⟨j, W, n, m, hj, rfl, hnj, hT⟩ := hrel
    by_cases hlt : j < l.length
    · obtain ⟨b, off, rfl, e0, e1, -⟩ := (hc.below hT.bel).at hlt
      obtain ⟨F, hF⟩ : ∃ F, F = l[j].p := ⟨_, rfl⟩
      obtain ⟨X, hX⟩ : ∃ F, F = l[j].x := ⟨_, rfl⟩
      rw [← hF] at e0
      rw [← hX] at e1
      clear hF hX
      have H14 : Hid (Calls Try.prog 14 #[.pointer (some ⟨t, 0, none⟩), .int .i64 F, .int .u64 X] wr.drew fun e w' => ∃ n' m', e = .returned (.int .i64 (setE F)) ∧ Tb w w' t (setI W F X) n' m' ∧ n' ≤ n + 1 ∧ Rk wr.drew w') := setT F X (hT.drewN 1) (by omega)
      go_wp2
      go_region_with (go_at_call 14; refine H14.out.mono ?_; rintro e w3 ⟨n', m', rfl, hT', hn3, -⟩)
      all_goals
        go_wp2
        exact ⟨⟨j + 1, _, n', m', by omega, by go_num, by omega, hT'⟩, by simp [intOf]; omega⟩
    · clear hc
      go_wp2_with fail
      refine (dropT p hT (by omega)).mono ?_
      rintro e w3 ⟨n1, m1, rfl, h3, hn1, -⟩
      rw [delI_nat hp] at h3
      clear hT
      obtain ⟨U, hU⟩ : ∃ U, U = delW W p := ⟨_, rfl⟩
      rw [← hU] at h3
      have hUp : U p = none := by rw [hU]; exact delW_same _ _
      have hm1 := h3.cnt.le3
      clear hU
      go_wp2_with fail
      refine (nodesT h3 (by omega)).mono ?_
      rintro e w4 ⟨rfl, rfl⟩
      go_wp2_with fail
      refine (lenT h3).mono ?_
      rintro e w4 ⟨rfl, rfl⟩
      go_wp2_with fail
      refine (getO o h3).mono ?_
      rintro e w5 ⟨rfl, h5, -⟩
      go_wp2_with fail
      refine (setT p x h5 (by omega)).mono ?_
      rintro e w6 ⟨n2, m2, rfl, h6, hn2, -⟩
      rw [setI_nat hp] at h6
      rw [setE_nat hp]
      obtain ⟨hb1, hb2⟩ := h3.cnt.set_bounds h6.cnt
      have HC3 : Hid (Cnts U n1 m1) := h3.cnt
      clear h3 h5
      go_wp2_with fail
      refine (getO p h6).mono ?_
      rintro e w7 ⟨rfl, h7, -⟩
      rw [getX_nat, getB_nat, setW_same]
      clear h6
      go_wp2_with fail
      refine (getO o h7).mono ?_
      rintro e w8 ⟨rfl, h8, -⟩
      clear h7
      go_wp2_with fail
      refine (nodesT h8 (by omega)).mono ?_
      rintro e w9 ⟨rfl, rfl⟩
      go_wp2_with fail
      refine (dropT p h8 (by omega)).mono ?_
      rintro e w10 ⟨n3, m3, rfl, h10, hn3, -⟩
      rw [delI_nat hp, del_set hUp] at h10
      rw [getB_nat, setW_same]
      clear h8
      obtain ⟨rfl, rfl⟩ := HC3.out.unique h10.cnt
      go_wp2_with fail
      refine (getO p h10).mono ?_
      rintro e w11 ⟨rfl, h11, -⟩
      rw [getX_nat, getB_nat, hUp]
      clear h10
      have HFIN : Hid (Below w.heap.size w w11) := h11.bel
      have x1 : (x == x) = true := by simp
      have o1 : ((n1 : Int) == (n1 : Int)) = true := by simp
      have o2 : ((1 + (m1 : Int)) == (1 + (m1 : Int))) = true := by simp
      by_cases hop : o = p
      · subst hop
        have hoo : ((p : Int) == (p : Int)) = true := by simp
        go_wp2_with fail
        refine (nodesT h11 (by omega)).mono ?_
        rintro e w12 ⟨rfl, rfl⟩
        go_wp2_with fail
        refine (lenT h11).mono ?_
        rintro e w12 ⟨rfl, rfl⟩
        go_wp2
        go_ret
        exact ⟨rfl, HFIN.out⟩
      · have hoo : (o == (p : Int)) = false := by simpa using hop
        obtain ⟨g1, g2⟩ := get_other (W := U) (x := x) hop
        rw [g1, g2]
        obtain ⟨Y, hY⟩ : ∃ Y, Y = getX U o := ⟨_, rfl⟩
        obtain ⟨Z, hZ⟩ : ∃ Z, Z = getB U o := ⟨_, rfl⟩
        rw [← hY, ← hZ]
        have y1 : (Y == Y) = true := by simp
        have z1 : (Z == Z) = true := by simp
        clear hY hZ g1 g2
        go_wp2_with fail
        refine (nodesT h11 (by omega)).mono ?_
        rintro e w12 ⟨rfl, rfl⟩
        go_wp2_with fail
        refine (lenT h11).mono ?_
        rintro e w12 ⟨rfl, rfl⟩
        go_wp2
        go_ret
        exact ⟨rfl, HFIN.out⟩

theorem last_walk (a : Option Addr) (cap : Nat) (l : List Ac) (p x o : Int) (w : World) (hc : ActsAt w a l) :
    Calls Try.prog 4 #[.slice a l.length cap, .int .i64 p, .int .u64 x, .int .i64 o] w fun e w' => e = .returned (.bool true) ∧ Below w.heap.size w w' := by
  by_cases h : 80 < l.length ∨ p < 0 ∨ 65536 ≤ p
  · exact last_out a cap _ p x o w h
  · obtain ⟨q, rfl⟩ := Int.eq_ofNat_of_zero_le (by omega : 0 ≤ p)
    exact last_in a cap l q x o w (by omega) (by omega) hc
end Go.Proofs.Ytaecacbapeogdaa
