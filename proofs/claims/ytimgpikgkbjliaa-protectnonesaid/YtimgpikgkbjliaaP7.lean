/-
  The contracts of mayAsk and of Held.
-/
import Derived.Test.YtimgpikgkbjliaaP5
namespace Go.Proofs.Ytimgpikgkbjliaa
open Go.RowKit

/-- May it be asked? -/
def may (l : List Nd) (n : Nat) (t : Int) : Bool := vd l && (decide (n = l.length) && isPlc l.length t)
/-- Is nothing taken from it? -/
def held (l : List Nd) (N : List Int) (t g : Int) : Bool := may l N.length t && (isPlc l.length g && (blw l t g && hd l (at0 N) t g))
theorem may_ok {l : List Nd} {n : Nat} {t : Int} (h : may l n t = true) : Ok l ∧ n = l.length ∧ 0 ≤ t ∧ t < l.length := by
  simp only [may, isPlc, Bool.and_eq_true, decide_eq_true_eq] at h
  exact ⟨ok_of h.1, h.2.1, h.2.2.1, h.2.2.2⟩

set_option maxHeartbeats 4000000 in
theorem pmay (a : Option Addr) (cap : Nat) (G : List Nd) (ae : Option Addr) (ne ce : Nat) (t : Int) (w : World) (h : Nds w a cap G) (hL : G.length ≤ 1000000) (hne : ne ≤ 140737488355328) :
    Calls Try.prog 32 #[.slice a G.length cap, .slice ae ne ce, .int .i64 t] w fun e w' => e = .returned (.bool (may G ne t)) ∧ Below w.heap.size w w' := by
  obtain ⟨V, hV⟩ : ∃ V, vd G = V := ⟨_, rfl⟩
  have HV : Hid (∀ w, Nds w a cap G → Calls Try.prog 14 #[.slice a G.length cap] w fun e w' => e = .returned (.bool V) ∧ Below w.heap.size w w') := by
    intro w h
    have := pvalid a cap G w h (by omega)
    rw [hV] at this
    exact this
  have HP : Hid (∀ w, Calls Try.prog 22 #[.slice a G.length cap, .int .i64 t] w fun e w' => e = .returned (.bool (isPlc G.length t)) ∧ w' = w) := pplc a G.length cap t
  have HM : Hid (may G ne t = (V && (decide (ne = G.length) && isPlc G.length t))) := by show _ = _; rw [← hV]; rfl
  clear hV
  cases V with
  | false =>
    have HF : Hid (may G ne t = false) := by show _ = _; rw [HM.out]; rfl
    go_enter Try.func32, Try.ntmps32
    go_wp2_with fail
    refine (HV.out _ h).mono ?_
    rintro e w1 ⟨rfl, hb1⟩
    go_wp2
    go_ret
    exact ⟨by rw [HF.out]; rfl, hb1⟩
  | true =>
    by_cases hq : ne = G.length
    · subst hq
      have HF : Hid (may G G.length t = isPlc G.length t) := by show _ = _; rw [HM.out]; simp
      generalize isPlc G.length t = I at HP HF
      clear HM
      go_enter Try.func32, Try.ntmps32
      go_wp2_with fail
      refine (HV.out _ h).mono ?_
      rintro e w1 ⟨rfl, hb1⟩
      go_wp2_with fail
      refine (HP.out _).mono ?_
      rintro e w2 ⟨rfl, rfl⟩
      go_wp2
      go_ret
      exact ⟨by rw [HF.out]; rfl, hb1⟩
    · have HF : Hid (may G ne t = false) := by show _ = _; rw [HM.out]; simp [hq]
      have hd : ((ne : Int) == G.length) = false := by simp; omega
      go_enter Try.func32, Try.ntmps32
      go_wp2_with fail
      refine (HV.out _ h).mono ?_
      rintro e w1 ⟨rfl, hb1⟩
      go_wp2
      go_ret
      exact ⟨by rw [HF.out]; rfl, hb1⟩

set_option maxRecDepth 100000 in
set_option maxHeartbeats 4000000 in
theorem pHeld (a : Option Addr) (cap : Nat) (G : List Nd) (ae : Option Addr) (ce : Nat) (N : List Int) (t g : Int) (w : World) (h : Nds w a cap G) (hE : Ints w ae N) (hL : G.length ≤ 1000000) (hN : N.length ≤ 140737488355328) :
    Calls Try.prog 17 #[.slice a G.length cap, .slice ae N.length ce, .int .i64 t, .int .i64 g] w fun e w' => e = .returned (.bool (held G N t g)) ∧ Below w.heap.size w w' := by
  obtain ⟨V, hV⟩ : ∃ V, may G N.length t = V := ⟨_, rfl⟩
  have HV : Hid (Calls Try.prog 32 #[.slice a G.length cap, .slice ae N.length ce, .int .i64 t] w fun e w' => e = .returned (.bool V) ∧ Below w.heap.size w w') := by
    have := pmay a cap G ae N.length ce t w h hL hN
    rw [hV] at this
    exact this
  have HP : Hid (∀ w, Calls Try.prog 22 #[.slice a G.length cap, .int .i64 g] w fun e w' => e = .returned (.bool (isPlc G.length g)) ∧ w' = w) := pplc a G.length cap g
  have HM : Hid (held G N t g = (V && (isPlc G.length g && (blw G t g && hd G (at0 N) t g)))) := by show _ = _; rw [← hV]; rfl
  cases V with
  | false =>
    have HF : Hid (held G N t g = false) := by show _ = _; rw [HM.out]; rfl
    clear hV
    go_enter Try.func17, Try.ntmps17
    go_wp2_with fail
    refine HV.out.mono ?_
    rintro e w1 ⟨rfl, hb1⟩
    go_wp2
    go_ret
    exact ⟨by rw [HF.out]; rfl, hb1⟩
  | true =>
    obtain ⟨hok, hNG, -, -⟩ := may_ok hV
    clear hV
    cases hI : isPlc G.length g with
    | false =>
      have HF : Hid (held G N t g = false) := by show _ = _; rw [HM.out, hI]; rfl
      rw [hI] at HP
      clear hI HM hNG
      go_enter Try.func17, Try.ntmps17
      go_wp2_with fail
      refine HV.out.mono ?_
      rintro e w1 ⟨rfl, hb1⟩
      go_wp2_with fail
      refine (HP.out _).mono ?_
      rintro e w2 ⟨rfl, rfl⟩
      go_wp2
      go_ret
      exact ⟨by rw [HF.out]; rfl, hb1⟩
    | true =>
      rw [hI] at HP
      have hg : 0 ≤ g ∧ g < G.length := by simpa [isPlc] using hI
      obtain ⟨x, rfl⟩ := Int.eq_ofNat_of_zero_le hg.1
      have hx : x < G.length := by omega
      obtain ⟨B, hB⟩ : ∃ B, blw G t x = B := ⟨_, rfl⟩
      obtain ⟨E, hEd⟩ : ∃ E, hd G (at0 N) t x = E := ⟨_, rfl⟩
      have HB : Hid (∀ w, Nds w a cap G → Calls Try.prog 24 #[.slice a G.length cap, .int .i64 x, .int .i64 t] w fun e w' => e = .returned (.bool B) ∧ Below w.heap.size w w') := by
        intro w h
        have := pwithin a cap G x t w h hok hx
        rw [hB] at this
        exact this
      have HE : Hid (∀ w, Nds w a cap G → Ints w ae N → Calls Try.prog 33 #[.slice a G.length cap, .slice ae N.length ce, .int .i64 t, .int .i64 x] w fun e w' => e = .returned (.bool E) ∧ Below w.heap.size w w') := by
        intro w h h2
        have := pheld a cap G ae ce N t x w h h2 hNG hok hx
        rw [hEd] at this
        exact this
      have HF : Hid (held G N t x = (B && E)) := by show _ = _; rw [HM.out, hI, hB, hEd]; rfl
      have HG : Hid (∀ w', Below w.heap.size w w' → Nds w' a cap G) := fun w' hb => h.later hb
      have HJ : Hid (∀ w', Below w.heap.size w w' → Ints w' ae N) := fun w' hb => hE.later hb
      clear hI HM hNG hg hB hEd h hE
      cases B with
      | false =>
        go_enter Try.func17, Try.ntmps17
        go_wp2_with fail
        refine HV.out.mono ?_
        rintro e w1 ⟨rfl, hb1⟩
        go_wp2_with fail
        refine (HP.out _).mono ?_
        rintro e w2 ⟨rfl, rfl⟩
        go_wp2_with fail
        refine (HB.out _ (HG.out _ hb1)).mono ?_
        rintro e w3 ⟨rfl, hb3⟩
        go_wp2
        go_ret
        exact ⟨by rw [HF.out]; rfl, bel_trans hb1 hb3⟩
      | true =>
        go_enter Try.func17, Try.ntmps17
        go_wp2_with fail
        refine HV.out.mono ?_
        rintro e w1 ⟨rfl, hb1⟩
        go_wp2_with fail
        refine (HP.out _).mono ?_
        rintro e w2 ⟨rfl, rfl⟩
        go_wp2_with fail
        refine (HB.out _ (HG.out _ hb1)).mono ?_
        rintro e w3 ⟨rfl, hb3⟩
        have hb3' := bel_trans hb1 hb3
        go_wp2_with fail
        refine (HE.out _ (HG.out _ hb3') (HJ.out _ hb3')).mono ?_
        rintro e w4 ⟨rfl, hb4⟩
        go_wp2
        go_ret
        exact ⟨by rw [HF.out]; rfl, bel_trans hb3' hb4⟩
end Go.Proofs.Ytimgpikgkbjliaa
