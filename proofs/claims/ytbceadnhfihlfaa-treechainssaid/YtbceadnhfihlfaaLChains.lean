/-
  The law TreeChains walked.
-/
import Derived.Test.YtbceadnhfihlfaaOpen
import Derived.Test.YtbceadnhfihlfaaSums
namespace Go.Proofs.Ytbceadnhfihlfaa
open Go.RowKit

theorem chains_out (a : Option Addr) (cap n : Nat) (g h : Int) (w : World) (hn : 100 < n) :
    Calls Try.prog 4 #[.slice a n cap, .int .i64 g, .int .i64 h] w fun e w' => e = .returned (.bool true) ∧ Below w.heap.size w w' := by
  go_enter Try.func4, Try.ntmps4
  go_wp2_with (go_at_call 8; refine (works_any _).mono ?_; rintro e w1 ⟨rfl, hb⟩)
  go_ret
  exact ⟨rfl, hb⟩

set_option maxRecDepth 100000 in
set_option maxHeartbeats 4000000 in
theorem chains_in (a : Option Addr) (cap : Nat) (l : List Ac) (g h : Int) (w : World) (hl : l.length ≤ 100) (hc : ActsAt w a l) :
    Calls Try.prog 4 #[.slice a l.length cap, .int .i64 g, .int .i64 h] w fun e w' => e = .returned (.bool true) ∧ Below w.heap.size w w' := by
  have d1 : decide ((100 : Int) < (l.length : Int)) = false := by simp; omega
  go_enter Try.func4, Try.ntmps4
  go_wp2_with fail
  refine (works_any _).mono ?_
  rintro e w1 ⟨rfl, hb1⟩
  go_wp2_with fail
  refine (newT hb1).mono ?_
  rintro e w2 ⟨t, rfl, h2, -⟩
  clear hb1 d1
  go_wp2
  go_loopw [9] (fun s9 wr => ∃ j : Nat, j ≤ l.length ∧ s9 = .int .i64 j ∧ Tr w wr t (doN l j)) (fun s9 _ => l.length - (intOf s9).toNat)
  case atStart => exact ⟨0, by omega, rfl, h2⟩
  case round =>
    clear h2
    obtain ⟨j, hj, rfl, hT⟩ := hrel
    by_cases hlt : j < l.length
    · obtain ⟨b, off, rfl, e0, e1⟩ := (hc.below hT.bel).at hlt
      have hD := doN_succ l j hlt
      obtain ⟨F, hF⟩ : ∃ F, F = l[j].g := ⟨_, rfl⟩
      obtain ⟨O, hO⟩ : ∃ F, F = l[j].off := ⟨_, rfl⟩
      have hD2 : doN l (j + 1) = if O then remG (doN l j) F else addG (doN l j) F := by rw [hD, hF, hO]; rfl
      rw [← hF] at e0
      rw [← hO] at e1
      have d0 : decide ((j : Int) < (l.length : Int)) = true := by simp; omega
      clear hF hO hD
      cases O with
      | true =>
        have H11 : Hid (Calls Try.prog 11 #[.pointer (some ⟨t, 0, none⟩), .int .i64 F] wr fun e w' => e = .returned (.int .i64 (remE (doN l j) F)) ∧ Tr w w' t (remG (doN l j) F) ∧ Ty pt wr w') := remT F hT
        have HD : Hid (doN l (j + 1) = remG (doN l j) F) := hD2
        clear hT hD2
        go_wp2_with fail
        refine H11.out.mono ?_
        rintro e w3 ⟨rfl, hT', -⟩
        go_wp2_with fail
        exact ⟨⟨j + 1, by omega, by go_num, by rw [HD.out]; exact hT'⟩, by simp [intOf]; omega⟩
      | false =>
        have H13 : Hid (Calls Try.prog 13 #[.pointer (some ⟨t, 0, none⟩), .int .i64 F] wr fun e w' => e = .returned (.tuple #[.int .i64 (addN (doN l j) F), .int .i64 (addE (doN l j) F)]) ∧ Tr w w' t (addG (doN l j) F) ∧ Ty pt wr w') := addT F hT
        have HD : Hid (doN l (j + 1) = addG (doN l j) F) := hD2
        clear hT hD2
        go_wp2_with fail
        refine H13.out.mono ?_
        rintro e w3 ⟨rfl, hT', -⟩
        go_wp2_with fail
        exact ⟨⟨j + 1, by omega, by go_num, by rw [HD.out]; exact hT'⟩, by simp [intOf]; omega⟩
    · obtain rfl : j = l.length := by omega
      have d0 : decide ((l.length : Int) < (l.length : Int)) = false := by simp
      obtain ⟨G, hG⟩ : ∃ G, G = doN l l.length := ⟨_, rfl⟩
      rw [← hG] at hT
      clear hG hlt hc
      have HL : Hid (∀ W, Tr w W t G → Calls Try.prog 16 #[.pointer (some ⟨t, 0, none⟩), .int .i64 g] W fun e w' => e = .returned (.bool (lv G g)) ∧ w' = W) := fun W h => liveT g h
      have HC := chainT g hT
      go_wp2_with fail
      refine HC.mono ?_
      rintro e w3 ⟨ac, cc, rfl, hI, h3, -⟩
      clear HC hT
      have hok := h3.ok
      cases hlg : lv G g with
      | false =>
        rw [hlg] at HL
        have H20 := fun W (h : Tr w W t G) => depT g h
        have H18 := fun W (h : Tr w W t G) => parT g h
        have H25 := fun W (h : Tr w W t G) => belT g h
        rw [chain_dead hlg]
        rw [dep_dead hlg] at H20
        rw [par_dead hlg] at H18
        rw [bel_dead hok hlg] at H25
        clear hlg hI
        go_wp2_with fail
        refine (HL.out _ h3).mono ?_
        rintro e w4 ⟨rfl, rfl⟩
        go_wp2_with fail
        refine (H20 _ h3).mono ?_
        rintro e w5 ⟨rfl, h5, -⟩
        go_wp2_with fail
        refine (H18 _ h5).mono ?_
        rintro e w6 ⟨rfl, rfl⟩
        go_wp2_with fail
        refine (H25 _ h5).mono ?_
        rintro e w7 ⟨aq, cq, rfl, -, h7, -⟩
        go_wp2_with fail
        go_ret
        exact ⟨rfl, h7.bel⟩
      | true =>
        rw [hlg] at HL
        have H20 := fun W (h : Tr w W t G) => depT g h
        have hpos := chain_pos hok hlg
        have hlen := chain_len hok g
        have hfst := chain_first hok hlg
        have hstep0 : ∀ C, C = chain G g → ∀ i (h : i < C.length), lv G C[i] = true ∧ (∀ h2 : i + 1 < C.length, par G C[i] = C[i + 1]) ∧ (i + 1 = C.length → C[i] = 0) := by rintro _ rfl; exact chain_step hok _ g (Nat.le_refl _)
        have HM : Hid (decide (g ∈ bel G h) = decide (h ∈ chain G g)) := by
          show _ = _
          exact decide_eq_decide.2 mem_bel
        have HR : Hid (par G 0 = -1) := par_root hok
        have hdep : dep G g = ((chain G g).length : Int) - 1 := rfl
        have hbl : (bel G h).length ≤ 1000000 := Nat.le_trans (bel_len G h) (Nat.le_trans hok.le (by omega))
        rw [hdep] at H20
        obtain ⟨C, hC⟩ : ∃ C, C = chain G g := ⟨_, rfl⟩
        rw [← hC] at H20 hpos hlen hfst hI HM ⊢
        have hstep := hstep0 C hC
        clear hstep0 hC hdep hlg
        obtain ⟨m, hm⟩ : ∃ m, C.length = m + 1 := ⟨C.length - 1, by omega⟩
        have HSTEP : Hid (∀ i (h : i < C.length), lv G C[i] = true ∧ (∀ h2 : i + 1 < C.length, par G C[i] = C[i + 1]) ∧ (i + 1 = C.length → C[i] = 0)) := hstep
        have H20' : Hid (∀ W, Tr w W t G → Calls Try.prog 20 #[.pointer (some ⟨t, 0, none⟩), .int .i64 g] W fun e w' => e = .returned (.int .i64 (m : Int)) ∧ Tr w w' t G ∧ Below W.heap.size W w') := fun W hW => by
          have := H20 W hW
          rw [hm, show (((m + 1 : Nat) : Int) - 1) = (m : Int) by omega] at this
          exact this
        have HLAST : Hid (∀ W, Ints W ac C → ∃ b off, ac = some ⟨b, off, none⟩ ∧ W.cell? ⟨b, off, none⟩ = some (.int .i64 g) ∧ W.cell? ⟨b, off + m, none⟩ = some (.int .i64 0)) := fun W hW => by
          obtain ⟨b, off, rfl, k0⟩ := hW 0 (by omega)
          obtain ⟨b', off', e', k1⟩ := hW m (by omega)
          have e'' := Option.some.inj e'
          injection e'' with e1 e2
          subst e1
          subst e2
          refine ⟨b, off, rfl, ?_, ?_⟩
          · rw [List.getElem?_eq_getElem (by omega)] at hfst
            rw [← Option.some.inj hfst]
            exact k0
          · rw [k1, (hstep m (by omega)).2.2 (by omega)]
        rw [hm]
        clear H20 hstep hfst hpos
        obtain ⟨b, off, rfl, k0, k1⟩ := HLAST.out _ hI
        have d2 : decide ((m : Int) + 1 < 1) = false := by simp; omega
        have d3 : decide (8 < (m : Int) + 1) = false := by simp; omega
        have d4 : (g != g) = false := by simp
        have d5 : ((m : Int) != (m : Int)) = false := by simp
        clear HLAST
        have HM1 : Hid (C.length = m + 1) := hm
        have hm7 : m ≤ 7 := by omega
        clear hm hlen
        go_wp2_with fail
        refine (HL.out _ h3).mono ?_
        rintro e w4 ⟨rfl, rfl⟩
        go_wp2_with fail
        refine (H20'.out _ h3).mono ?_
        rintro e w5 ⟨rfl, h5, b5⟩
        have hI5 := hI.later b5
        clear hI h3 b5 k0 k1 H20' HL
        go_wp2_with fail
        go_loopw [11] (fun s11 wx => ∃ i : Nat, i ≤ m + 1 ∧ s11 = .int .i64 i ∧ Ints wx (some ⟨b, off, none⟩) C ∧ Tr w wx t G) (fun s11 _ => m + 1 - (intOf s11).toNat)
        case atStart => exact ⟨0, by omega, rfl, hI5, h5⟩
        case round =>
          clear hI5 h5
          obtain ⟨i, hi, rfl, hI, h5⟩ := hrel
          by_cases hil : i < m + 1
          · have q0 : decide ((i : Int) < (m : Int) + 1) = true := by simp; omega
            have hic : i < C.length := by rw [HM1.out]; exact hil
            obtain ⟨s1, s2, s3⟩ := HSTEP.out i hic
            obtain ⟨b', off', e', k1⟩ := hI i hic
            have e'' := Option.some.inj e'
            injection e'' with e1 e2
            subst e1
            subst e2
            obtain ⟨x, hx⟩ : ∃ x, x = C[i] := ⟨_, rfl⟩
            rw [← hx] at k1 s1
            have HLx : Hid (∀ W, Tr w W t G → Calls Try.prog 16 #[.pointer (some ⟨t, 0, none⟩), .int .i64 x] W fun e w' => e = .returned (.bool true) ∧ w' = W) := fun W h => by
              have := liveT x h
              rw [s1] at this
              exact this
            by_cases him : i < m
            · have hic2 : i + 1 < C.length := by rw [HM1.out]; omega
              have s4 := s2 hic2
              rw [← hx] at s4
              obtain ⟨b', off', e', k2⟩ := hI (i + 1) hic2
              have e'' := Option.some.inj e'
              injection e'' with e1 e2
              subst e1
              subst e2
              obtain ⟨y, hy⟩ : ∃ y, y = C[i + 1] := ⟨_, rfl⟩
              rw [← hy] at k2 s4
              have HPx : Hid (∀ W, Tr w W t G → Calls Try.prog 18 #[.pointer (some ⟨t, 0, none⟩), .int .i64 x] W fun e w' => e = .returned (.int .i64 y) ∧ w' = W) := fun W h => by
                have := parT x h
                rw [s4] at this
                exact this
              have q1 : decide ((i : Int) < (m : Int)) = true := by simp; omega
              have q1' : decide ((i : Int) + 1 < (m : Int) + 1) = true := by simp; omega
              have q2 : (y != y) = false := by simp
              have k2' : wr.cell? ⟨b, off + i + 1, none⟩ = some (.int .i64 y) := by rw [Nat.add_assoc]; exact k2
              clear hx hy s1 s2 s3 s4 hic hic2 HSTEP
              go_wp2_with fail
              refine (HPx.out _ h5).mono ?_
              rintro e w6 ⟨rfl, rfl⟩
              go_wp2_with fail
              refine (HLx.out _ h5).mono ?_
              rintro e w6 ⟨rfl, rfl⟩
              go_wp2_with fail
              exact ⟨⟨i + 1, by omega, by go_num, hI, h5⟩, by simp [intOf]; omega⟩
            · obtain rfl : i = m := by omega
              have hx0 : x = 0 := by rw [hx]; exact s3 (by rw [HM1.out])
              have HPx : Hid (∀ W, Tr w W t G → Calls Try.prog 18 #[.pointer (some ⟨t, 0, none⟩), .int .i64 x] W fun e w' => e = .returned (.int .i64 (-1)) ∧ w' = W) := fun W h => by
                have := parT x h
                rw [hx0, HR.out] at this
                rw [hx0]
                exact this
              have q1 : decide ((i : Int) < (i : Int)) = false := by simp
              have q1' : decide ((i : Int) + 1 < (i : Int) + 1) = false := by simp
              clear hx hx0 s1 s2 s3 hic HSTEP
              go_wp2_with fail
              refine (HPx.out _ h5).mono ?_
              rintro e w6 ⟨rfl, rfl⟩
              go_wp2_with fail
              refine (HLx.out _ h5).mono ?_
              rintro e w6 ⟨rfl, rfl⟩
              go_wp2_with fail
              exact ⟨⟨i + 1, by omega, by go_num, hI, h5⟩, by simp [intOf]⟩
          · have hi' : i = m + 1 := by omega
            subst hi'
            have q0 : decide (((m + 1 : Nat) : Int) < (m : Int) + 1) = false := by simp
            have q0' : decide ((m : Int) + 1 < (m : Int) + 1) = false := by simp
            have HB := belT h h5
            obtain ⟨L, hL⟩ : ∃ L, L = bel G h := ⟨_, rfl⟩
            rw [← hL] at HB HM hbl
            have HC5 : Hid (C.length ≤ 1000000) := by have := HM1.out; show _ ≤ _; omega
            obtain ⟨v, hv⟩ : ∃ v, v = decide (h ∈ C) := ⟨_, rfl⟩
            rw [← hv] at HM
            have HV : Hid (decide (h ∈ C) = v) := hv.symm
            clear hL hv
            go_wp2_with fail
            refine HB.mono ?_
            rintro e w6 ⟨ab, cb, rfl, hIb, h6, b6⟩
            have hI6 := hI.later b6
            go_wp2_with fail
            refine (rin ab cb L g w6 hIb hbl).mono ?_
            rintro e w7 ⟨rfl, rfl⟩
            rw [HM.out]
            have HIN := rin (some ⟨b, off, none⟩) cc C h w7 hI6 HC5.out
            rw [HM1.out, HV.out] at HIN
            go_wp2_with fail
            refine HIN.mono ?_
            rintro e w8 ⟨rfl, rfl⟩
            go_wp2_with fail
            go_ret
            exact ⟨by simp [go_sem], h6.bel⟩
theorem chains_walk (a : Option Addr) (cap : Nat) (l : List Ac) (g h : Int) (w : World) (hc : ActsAt w a l) : Calls Try.prog 4 #[.slice a l.length cap, .int .i64 g, .int .i64 h] w fun e w' => e = .returned (.bool true) ∧ Below w.heap.size w w' := by
  by_cases hl : 100 < l.length
  · exact chains_out a cap _ g h w hl
  · exact chains_in a cap l g h w (by omega) hc
end Go.Proofs.Ytbceadnhfihlfaa
