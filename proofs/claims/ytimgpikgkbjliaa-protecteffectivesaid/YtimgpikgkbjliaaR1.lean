/-
  The document's right and Held.
-/
import Derived.Test.YtimgpikgkbjliaaP7
import Derived.Test.YtimgpikgkbjliaaP10
namespace Go.Proofs.Ytimgpikgkbjliaa
open Go.RowKit

set_option maxHeartbeats 4000000 in
theorem rright (a : Option Addr) (cap : Nat) (G : List Nd) (ae : Option Addr) (ne ce : Nat) (t : Int) (w : World) (h : Nds w a cap G) (hL : G.length ≤ 1000000) (hne : ne ≤ 140737488355328) :
    Calls Try.prog 31 #[.slice a G.length cap, .slice ae ne ce, .int .i64 t] w fun e w' => e = .returned (.bool (may G ne t)) ∧ Below w.heap.size w w' := by
  obtain ⟨V, hV⟩ : ∃ V, vd G = V := ⟨_, rfl⟩
  have HV : Hid (∀ w, Nds w a cap G → Calls Try.prog 15 #[.slice a G.length cap] w fun e w' => e = .returned (.bool V) ∧ Below w.heap.size w w') := by
    intro w h
    have := rvalid a cap G w h (by omega)
    rw [hV] at this
    exact this
  have HM : Hid (may G ne t = (V && (decide (ne = G.length) && isPlc G.length t))) := by show _ = _; rw [← hV]; rfl
  clear hV
  cases V with
  | false =>
    have HF : Hid (may G ne t = false) := by show _ = _; rw [HM.out]; rfl
    go_enter Try.func31, Try.ntmps31
    go_wp2_with fail
    refine (HV.out _ h).mono ?_
    rintro e w1 ⟨rfl, hb1⟩
    go_wp2
    go_ret
    exact ⟨by rw [HF.out]; rfl, hb1⟩
  | true =>
    by_cases hq : ne = G.length
    · subst hq
      by_cases h0 : 0 ≤ t
      · have HF : Hid (may G G.length t = decide (t < G.length)) := by show _ = _; rw [HM.out]; simp [isPlc, h0]
        have hd : decide (0 ≤ t) = true := by simpa using h0
        clear HM
        go_enter Try.func31, Try.ntmps31
        go_wp2_with fail
        refine (HV.out _ h).mono ?_
        rintro e w1 ⟨rfl, hb1⟩
        go_wp2
        go_ret
        exact ⟨by rw [HF.out]; rfl, hb1⟩
      · have HF : Hid (may G G.length t = false) := by show _ = _; rw [HM.out]; simp [isPlc, h0]
        have hd : decide (0 ≤ t) = false := by simpa using h0
        clear HM
        go_enter Try.func31, Try.ntmps31
        go_wp2_with fail
        refine (HV.out _ h).mono ?_
        rintro e w1 ⟨rfl, hb1⟩
        go_wp2
        go_ret
        exact ⟨by rw [HF.out]; rfl, hb1⟩
    · have HF : Hid (may G ne t = false) := by show _ = _; rw [HM.out]; simp [hq]
      have hd : ((ne : Int) == G.length) = false := by simp; omega
      go_enter Try.func31, Try.ntmps31
      go_wp2_with fail
      refine (HV.out _ h).mono ?_
      rintro e w1 ⟨rfl, hb1⟩
      go_wp2
      go_ret
      exact ⟨by rw [HF.out]; rfl, hb1⟩

set_option maxRecDepth 100000 in
set_option maxHeartbeats 4000000 in
theorem rHeld (a : Option Addr) (cap : Nat) (G : List Nd) (ae : Option Addr) (ce : Nat) (N : List Int) (t g : Int) (w : World) (h : Nds w a cap G) (hE : Ints w ae N) (hL : G.length ≤ 1000000) (hN : N.length ≤ 140737488355328) :
    Calls Try.prog 16 #[.slice a G.length cap, .slice ae N.length ce, .int .i64 t, .int .i64 g] w fun e w' => e = .returned (.bool (held G N t g)) ∧ Below w.heap.size w w' := by
  obtain ⟨V, hV⟩ : ∃ V, may G N.length t = V := ⟨_, rfl⟩
  have HV : Hid (Calls Try.prog 31 #[.slice a G.length cap, .slice ae N.length ce, .int .i64 t] w fun e w' => e = .returned (.bool V) ∧ Below w.heap.size w w') := by
    have := rright a cap G ae N.length ce t w h hL hN
    rw [hV] at this
    exact this
  have HM : Hid (held G N t g = (V && (isPlc G.length g && (blw G t g && hd G (at0 N) t g)))) := by show _ = _; rw [← hV]; rfl
  cases V with
  | false =>
    have HF : Hid (held G N t g = false) := by show _ = _; rw [HM.out]; rfl
    clear hV
    go_enter Try.func16, Try.ntmps16
    go_wp2_with fail
    refine HV.out.mono ?_
    rintro e w1 ⟨rfl, hb1⟩
    go_wp2
    go_ret
    exact ⟨by rw [HF.out]; rfl, hb1⟩
  | true =>
    obtain ⟨hok, hNG, ht0, ht1⟩ := may_ok hV
    have HNG : Hid (N.length = G.length) := hNG
    clear hV hNG
    by_cases hg0 : g < 0
    · have hd : decide (g < 0) = true := by simpa using hg0
      have HF : Hid (held G N t g = false) := by
        show _ = _
        have : isPlc G.length g = false := by simp [isPlc]; intro; omega
        rw [HM.out, this]; rfl
      clear HM
      go_enter Try.func16, Try.ntmps16
      go_wp2_with fail
      refine HV.out.mono ?_
      rintro e w1 ⟨rfl, hb1⟩
      go_wp2
      go_ret
      exact ⟨by rw [HF.out]; rfl, hb1⟩
    have d0 : decide (g < 0) = false := by simpa using hg0
    by_cases hg1 : (G.length : Int) ≤ g
    · have hd : decide ((G.length : Int) ≤ g) = true := by simpa using hg1
      have HF : Hid (held G N t g = false) := by
        show _ = _
        have : isPlc G.length g = false := by simp [isPlc]; intro; omega
        rw [HM.out, this]; rfl
      clear HM
      go_enter Try.func16, Try.ntmps16
      go_wp2_with fail
      refine HV.out.mono ?_
      rintro e w1 ⟨rfl, hb1⟩
      go_wp2
      go_ret
      exact ⟨by rw [HF.out]; rfl, hb1⟩
    obtain ⟨x0, rfl⟩ := Int.eq_ofNat_of_zero_le (show 0 ≤ g by omega)
    have hx0 : x0 < G.length := by omega
    have d1 : decide (G.length ≤ x0) = false := by simp; omega
    have hpl : isPlc G.length x0 = true := by simp [isPlc]; omega
    have HG : Hid (∀ w', Below w.heap.size w w' → Nds w' a cap G) := fun w' hb => h.later hb
    have HJ : Hid (∀ w', Below w.heap.size w w' → Ints w' ae N) := fun w' hb => hE.later hb
    obtain ⟨B, hB⟩ : ∃ B, blw G t x0 = B := ⟨_, rfl⟩
    have HB : Hid (∀ w', Nds w' a cap G → Calls Try.prog 27 #[.slice a G.length cap, .int .i64 x0, .int .i64 t] w' fun e w'' => e = .returned (.bool B) ∧ w'' = w') := by
      intro w' h
      have := rbelow a cap G t x0 w' h hok hx0 ht0
      rw [hB] at this
      exact this
    cases B with
    | false =>
      have HF : Hid (held G N t x0 = false) := by show _ = _; rw [HM.out, hpl, hB]; rfl
      clear HM hpl hB
      go_enter Try.func16, Try.ntmps16
      go_wp2_with fail
      refine HV.out.mono ?_
      rintro e w1 ⟨rfl, hb1⟩
      go_wp2_with fail
      refine (HB.out _ (HG.out _ hb1)).mono ?_
      rintro e w2 ⟨rfl, rfl⟩
      go_wp2
      go_ret
      exact ⟨by rw [HF.out]; rfl, hb1⟩
    | true =>
      have HF : Hid (held G N t x0 = hd G (at0 N) t x0) := by show _ = _; rw [HM.out, hpl, hB]; rfl
      obtain ⟨V, hV⟩ : ∃ V, V = held G N t x0 := ⟨_, rfl⟩
      rw [← hV] at HF ⊢
      have HBl : Hid (blw G t x0 = true) := hB
      clear HM hpl hB hV h hE
      go_enter Try.func16, Try.ntmps16
      go_wp2_with fail
      refine HV.out.mono ?_
      rintro e w1 ⟨rfl, hb1⟩
      go_wp2_with fail
      refine (HB.out _ (HG.out _ hb1)).mono ?_
      rintro e w2 ⟨rfl, rfl⟩
      go_wp2
      go_loopw [3] (fun s3 wr => ∃ i : Nat, i < G.length ∧ s3 = .int .i64 i ∧ Hid (blw G t i = true) ∧ Hid (V = hd G (at0 N) t i) ∧ Below w.heap.size w wr) (fun s3 _ => (intOf s3 + 1).toNat)
      case atStart => exact ⟨x0, hx0, rfl, HBl, HF, hb1⟩
      case round =>
        clear hb1 HBl HF
        obtain ⟨i, hi, rfl, HBi, HVi, hb⟩ := hrel
        by_cases hit : (i : Int) = t
        · have hd : ((i : Int) != t) = false := by simpa using hit
          have HZ : Hid (V = false) := by show _ = _; rw [HVi.out, hit, hd_self]
          clear hit HBi HVi
          go_wp2
          go_ret
          exact ⟨by rw [HZ.out]; rfl, hb⟩
        · have hdt : ((i : Int) != t) = true := by simpa using hit
          obtain ⟨b, off, e1, g0, g1, g2⟩ := (HG.out _ hb).get hi
          obtain ⟨be, oe, e2, k0⟩ := (HJ.out _ hb).at' i (by rw [HNG.out]; exact hi)
          have k0' : wr.cell? ⟨be, oe + i, none⟩ = some (.int .i64 (at0 N i)) := k0
          have hiN : i < N.length := by rw [HNG.out]; exact hi
          clear k0
          by_cases hu : use G i ≤ at0 N i
          · have hd2 : decide (use G i ≤ at0 N i) = true := by simpa using hu
            have HZ : Hid (V = true) := by show _ = _; rw [HVi.out]; exact hd_yes G _ hit hu
            clear hit HBi HVi hu
            subst e1 e2
            go_wp2
            go_quiet (fail)
            go_wp2
            go_ret
            exact ⟨by rw [HZ.out]; rfl, below_drawn hb _⟩
          · have hd2 : decide (use G i ≤ at0 N i) = false := by simpa using hu
            have hbu := HBi.out
            rw [blw_up hok hi hit] at hbu
            have hlo := par_lo hok hi
            have hp0 : 0 ≤ par G i := by
              by_cases e : par G i < 0
              · rw [blw_neg e] at hbu; cases hbu
              · omega
            have hvu := HVi.out
            rw [hd_up hok _ hi hit hu] at hvu
            obtain ⟨q, hq⟩ := Int.eq_ofNat_of_zero_le hp0
            rw [hq] at hbu hvu hlo g0
            have HB2 : Hid (blw G t q = true) := hbu
            have HV2 : Hid (V = hd G (at0 N) t q) := hvu
            clear hit HBi HVi hu hbu hvu hp0 hq
            subst e1 e2
            have HD : Hid (Below w.heap.size w wr) := hb
            clear hb
            go_wp2
            go_quiet (fail)
            go_wp2
            exact ⟨⟨q, by omega, rfl, HB2, HV2, below_drawn HD.out _⟩, by simp only [intOf]; omega⟩
end Go.Proofs.Ytimgpikgkbjliaa
