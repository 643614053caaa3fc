/-
  The contract of the document's Find.
-/
import Derived.Test.YtagobeoabkbhaaaP7
namespace Go.Proofs.Ytagobeoabkbhaaa
open Go.RowKit

set_option maxHeartbeats 4000000 in
theorem rfind (a : Option Addr) (cap : Nat) (L : List Rg) (p : Int) (w : World) (h : Regs w a cap L) (hL : L.length ≤ 1000) :
    Calls Try.prog 14 #[.slice a L.length cap, .int .i64 p] w fun e w' => e = .returned (fT (fnd L p)) ∧ Below w.heap.size w w' := by
  have HR1 : Hid (∀ w, Regs w a cap L → Calls Try.prog 16 #[.slice a L.length cap] w fun e w' => e = .returned (.bool (rt 0 L)) ∧ Below w.heap.size w w') := fun w h => rright a cap L w h (by omega)
  have hz0 := zeroBox w
  have hb0 := below_alloc w (.cells #[.int .i64 0, .int .i64 0, .int .i64 0, .int .i64 0, .int .i64 0, .bool false] 25)
  have HZ : Hid (∀ wr, RowAt wr w.heap.size 25 (rc zeroR) → wr.cell? ⟨w.heap.size, 0, none⟩ = some (.int .i64 0) ∧ wr.cell? ⟨w.heap.size, 1, none⟩ = some (.int .i64 0) ∧ wr.cell? ⟨w.heap.size, 2, none⟩ = some (.int .i64 0) ∧ wr.cell? ⟨w.heap.size, 3, none⟩ = some (.int .i64 0) ∧ wr.cell? ⟨w.heap.size, 4, none⟩ = some (.int .i64 0) ∧ wr.cell? ⟨w.heap.size, 5, none⟩ = some (.bool false) ∧ wr.frozen? ⟨w.heap.size, 0, none⟩ = false ∧ wr.frozen? ⟨w.heap.size, 1, none⟩ = false ∧ wr.frozen? ⟨w.heap.size, 2, none⟩ = false ∧ wr.frozen? ⟨w.heap.size, 3, none⟩ = false ∧ wr.frozen? ⟨w.heap.size, 4, none⟩ = false ∧ wr.frozen? ⟨w.heap.size, 5, none⟩ = false) := by
    intro wr h
    obtain ⟨z0, z1, z2, z3, z4, z5⟩ := h.six
    exact ⟨z0, z1, z2, z3, z4, z5, h.frozen 0, h.frozen 1, h.frozen 2, h.frozen 3, h.frozen 4, h.frozen 5⟩
  obtain ⟨O, hO⟩ : ∃ O, O = fnd L p := ⟨_, rfl⟩
  rw [← hO]
  go_enter Try.func14, Try.ntmps14
  go_wp2
  go_loopw [6] (fun s6 wr => ∃ (j : Nat), j ≤ L.length ∧ s6 = .int .i64 j ∧ (∀ k (h : k < L.length), k < j → ¬ (L[k].f ≤ p ∧ p < L[k].t)) ∧ RowAt wr w.heap.size 25 (rc zeroR) ∧ Below w.heap.size w wr) (fun s6 _ => L.length - (intOf s6).toNat)
  case atStart => exact ⟨0, by omega, rfl, fun k _ hk => by omega, hz0, hb0⟩
  case round =>
    obtain ⟨j, hj, rfl, hno, hz, hb⟩ := hrel
    have hr := h.later hb
    clear hz0 hb0 h
    by_cases hjl : j < L.length
    · have hd : decide (j < L.length) = true := by simp; omega
      cases hq : rt 0 L with
      | false =>
        have HF : fnd L p = none := by unfold fnd; rw [hq]; rfl
        rw [HF] at hO
        subst hO
        rw [hq] at HR1
        clear hq HF hno
        go_wp2_with fail
        refine (HR1.out _ hr).mono ?_
        rintro e w1 ⟨rfl, hb1⟩
        have hz1 := hz.later hb1
        have hB1 := bel_trans hb hb1
        clear hz hb hb1
        obtain ⟨z0, z1, z2, z3, z4, z5, g0, g1, g2, g3, g4, g5⟩ := HZ.out _ hz1
        go_wp2
        obtain ⟨w5, hw5, hr5, hB5, -⟩ := setSix zeroR hz1 hB1 (Nat.le_refl _)
        simp only [zeroR] at hw5
        rw [← hw5]
        refine bodyPost_ret (res2 rfl _ _ _ _ rfl hr5) rfl ?_
        exact ⟨rfl, hB5⟩
      | true =>
        have HR : Hid (RL L) := (rt_iff L).1 hq
        rw [fnd_right HR.out] at hO
        rw [hq] at HR1
        have HM : Hid (L[j].f ≤ p → p < L[j].t → O = some L[j]) := fun h1 h2 => by rw [hO]; exact fd_mem HR.out (List.getElem_mem hjl) ⟨h1, h2⟩
        have HN : Hid (¬ (L[j].f ≤ p ∧ p < L[j].t) → ∀ k (h : k < L.length), k < j + 1 → ¬ (L[k].f ≤ p ∧ p < L[k].t)) := by
          intro hh k hk hkj
          rcases Nat.lt_or_eq_of_le (Nat.le_of_lt_succ hkj) with h1 | h1
          · exact hno k hk h1
          · subst h1; exact hh
        clear hq hno hO
        go_wp2_with fail
        refine (HR1.out _ hr).mono ?_
        rintro e w1 ⟨rfl, hb1⟩
        have hz1 := hz.later hb1
        have hB1 := bel_trans hb hb1
        have hr1 := hr.later hb1
        clear hz hb hb1 hr
        obtain ⟨b, off, rfl, c0, c1, c2, c3, c4, c5⟩ := hr1.get hjl
        obtain ⟨x, hx⟩ : ∃ x, x = L[j] := ⟨_, rfl⟩
        rw [← hx] at HM HN c0 c1 c2 c3 c4 c5
        clear hx hr1
        by_cases hf : x.f ≤ p
        · have qf : decide (x.f ≤ p) = true := by simp; omega
          by_cases ht : p < x.t
          · have qt : decide (p < x.t) = true := by simp; omega
            have HO := HM.out hf ht
            subst HO
            clear HM HN hf ht
            obtain ⟨z0, z1, z2, z3, z4, z5, g0, g1, g2, g3, g4, g5⟩ := HZ.out _ hz1
            go_wp2
            obtain ⟨w5, hw5, hr5, hB5, -⟩ := setSix x hz1 hB1 (Nat.le_refl _)
            rw [← hw5]
            refine bodyPost_ret (res2 rfl _ _ _ _ rfl hr5) rfl ?_
            exact ⟨rfl, hB5⟩
          · have qt : decide (p < x.t) = false := by simp; omega
            have HN2 : Hid (∀ k (h : k < L.length), k < j + 1 → ¬ (L[k].f ≤ p ∧ p < L[k].t)) := HN.out (fun h => ht h.2)
            clear HM HN hf ht
            go_wp2
            exact ⟨⟨j + 1, by omega, by go_num, HN2.out, hz1, hB1⟩, by simp [intOf]; omega⟩
        · have qf : decide (x.f ≤ p) = false := by simp; omega
          have HN2 : Hid (∀ k (h : k < L.length), k < j + 1 → ¬ (L[k].f ≤ p ∧ p < L[k].t)) := HN.out (fun h => hf h.1)
          clear HM HN hf
          go_wp2
          exact ⟨⟨j + 1, by omega, by go_num, HN2.out, hz1, hB1⟩, by simp [intOf]; omega⟩
    · have hd : decide (j < L.length) = false := by simp; omega
      have HF : fnd L p = none := by
        unfold fnd
        split
        · apply fd_none
          intro x hx
          obtain ⟨k, hk, rfl⟩ := List.getElem_of_mem hx
          exact hno k hk (by omega)
        · rfl
      rw [HF] at hO
      subst hO
      clear HF hno hr
      obtain ⟨z0, z1, z2, z3, z4, z5, g0, g1, g2, g3, g4, g5⟩ := HZ.out _ hz
      go_wp2
      obtain ⟨w5, hw5, hr5, hB5, -⟩ := setSix zeroR hz hb (Nat.le_refl _)
      simp only [zeroR] at hw5
      rw [← hw5]
      refine bodyPost_ret (res2 rfl _ _ _ _ rfl hr5) rfl ?_
      exact ⟨rfl, hB5⟩
end Go.Proofs.Ytagobeoabkbhaaa
