/-
  The contracts of the laws' above, and row; the document's below.
-/
import Derived.Test.YtimgpikgkbjliaaP5
namespace Go.Proofs.Ytimgpikgkbjliaa
open Go.RowKit

set_option maxHeartbeats 4000000 in
theorem pabove (a : Option Addr) (cap : Nat) (G : List Nd) (g : Int) (t : Nat) (w : World) (h : Nds w a cap G) (hok : Ok G) (ht : t < G.length) :
    Calls Try.prog 20 #[.slice a G.length cap, .int .i64 g, .int .i64 t] w fun e w' => e = .returned (.bool (blw G g t)) ∧ w' = w := by
  obtain ⟨V, hV⟩ : ∃ V, V = blw G g t := ⟨_, rfl⟩
  rw [← hV]
  have hlen := hok.len
  go_enter Try.func20, Try.ntmps20
  go_wp2
  go_loop [2] (fun s2 => ∃ x : Int, s2 = .int .i64 x ∧ -1 ≤ x ∧ x < G.length ∧ Hid (V = blw G g x)) (fun s2 => (intOf s2 + 1).toNat)
  case atStart => exact ⟨t, rfl, by omega, by omega, hV⟩
  case round =>
    clear hV
    obtain ⟨x, rfl, hx0, hx1, HV⟩ := hrel
    by_cases hm : x < 0
    · have hd : decide (0 ≤ x) = false := by simpa using hm
      have HF : Hid (V = false) := by show _ = _; rw [HV.out, blw_neg hm]
      clear HV
      go_wp2
      go_ret
      exact ⟨by rw [HF.out]; rfl, rfl⟩
    · obtain ⟨i, rfl⟩ := Int.eq_ofNat_of_zero_le (show 0 ≤ x by omega)
      have hi : i < G.length := by omega
      by_cases he : (i : Int) = g
      · have hd : ((i : Int) == g) = true := by simpa using he
        have HF : Hid (V = true) := by show _ = _; rw [HV.out, he, blw_self (by omega)]
        clear HV he
        go_wp2
        go_ret
        exact ⟨by rw [HF.out]; rfl, rfl⟩
      · have hd : ((i : Int) == g) = false := by simpa using he
        have HF : Hid (V = blw G g (par G i)) := by show _ = _; rw [HV.out, blw_up hok hi he]
        obtain ⟨b, off, rfl, c0, -⟩ := h.get hi
        have hlo := par_lo hok hi
        obtain ⟨q, hq⟩ : ∃ q, q = par G i := ⟨_, rfl⟩
        rw [← hq] at HF c0 hlo
        clear HV he hq
        go_wp2
        exact ⟨⟨q, rfl, hlo.1, by omega, HF⟩, by simp only [intOf]; omega⟩

set_option maxHeartbeats 4000000 in
theorem rbelow (a : Option Addr) (cap : Nat) (G : List Nd) (t : Int) (g : Nat) (w : World) (h : Nds w a cap G) (hok : Ok G) (hg : g < G.length) (ht : 0 ≤ t) :
    Calls Try.prog 27 #[.slice a G.length cap, .int .i64 g, .int .i64 t] w fun e w' => e = .returned (.bool (blw G t g)) ∧ w' = w := by
  obtain ⟨V, hV⟩ : ∃ V, V = blw G t g := ⟨_, rfl⟩
  rw [← hV]
  have hlen := hok.len
  go_enter Try.func27, Try.ntmps27
  go_wp2
  go_loop [1] (fun s1 => ∃ x : Int, s1 = .int .i64 x ∧ -1 ≤ x ∧ x < G.length ∧ Hid (V = blw G t x)) (fun s1 => (intOf s1 + 1).toNat)
  case atStart => exact ⟨g, rfl, by omega, by omega, hV⟩
  case round =>
    clear hV
    obtain ⟨x, rfl, hx0, hx1, HV⟩ := hrel
    by_cases hm : x < 0
    · have hd : decide (0 ≤ x) = false := by simpa using hm
      have hd2 : (x == t) = false := by simp; omega
      have HF : Hid (V = false) := by show _ = _; rw [HV.out, blw_neg hm]
      clear HV
      go_wp2
      go_ret
      exact ⟨by rw [HF.out]; rfl, rfl⟩
    · obtain ⟨i, rfl⟩ := Int.eq_ofNat_of_zero_le (show 0 ≤ x by omega)
      have hi : i < G.length := by omega
      by_cases he : (i : Int) = t
      · have hd : ((i : Int) != t) = false := by simpa using he
        have hd2 : ((i : Int) == t) = true := by simpa using he
        have HF : Hid (V = true) := by show _ = _; rw [HV.out, he, blw_self (by omega)]
        clear HV he
        go_wp2
        go_ret
        exact ⟨by rw [HF.out]; rfl, rfl⟩
      · have hd : ((i : Int) != t) = true := by simpa using he
        have HF : Hid (V = blw G t (par G i)) := by show _ = _; rw [HV.out, blw_up hok hi he]
        obtain ⟨b, off, rfl, c0, -⟩ := h.get hi
        have hlo := par_lo hok hi
        obtain ⟨q, hq⟩ : ∃ q, q = par G i := ⟨_, rfl⟩
        rw [← hq] at HF c0 hlo
        clear HV he hq
        go_wp2
        exact ⟨⟨q, rfl, hlo.1, by omega, HF⟩, by simp only [intOf]; omega⟩

set_option maxHeartbeats 4000000 in
/-- Two rows that are the same. -/
theorem prow (a b : Option Addr) (ca cb : Nat) (N : List Int) (w : World) (h1 : Ints w a N) (h2 : Ints w b N) (hN : N.length ≤ 1000000) :
    Calls Try.prog 10 #[.slice a N.length ca, .slice b N.length cb] w fun e w' => e = .returned (.bool true) ∧ Below w.heap.size w w' := by
  go_enter Try.func10, Try.ntmps10
  go_wp2
  go_loopw [5] (fun s5 wr => ∃ j : Nat, j ≤ N.length ∧ s5 = .int .i64 j ∧ Below w.heap.size w wr) (fun s5 _ => N.length - (intOf s5).toNat)
  case atStart => exact ⟨0, by omega, rfl, Below.refl _ _⟩
  case round =>
    obtain ⟨j, hj, rfl, hb⟩ := hrel
    by_cases hjl : j < N.length
    · obtain ⟨b1, o1, rfl, c1⟩ := (h1.later hb).at' j hjl
      obtain ⟨b2, o2, rfl, c2⟩ := (h2.later hb).at' j hjl
      generalize N.getD j 0 = x at c1 c2
      have hd : (x != x) = false := by simp
      clear h1 h2
      go_wp2
      go_quiet (fail)
      go_wp2
      exact ⟨⟨j + 1, by omega, by go_num, below_drawn hb _⟩, by simp [intOf]; omega⟩
    · have hlen : j = N.length := by omega
      subst hlen
      go_wp2
      go_ret
      exact ⟨rfl, hb⟩
end Go.Proofs.Ytimgpikgkbjliaa
