/-
  The law CounterDoes walked.
-/
import Derived.Test.YtpageadhmgoddaaBoth
namespace Go.Proofs.Ytpageadhmgoddaa
open Go.RowKit

set_option maxRecDepth 100000 in
theorem does_out (a : Option Addr) (cap : Nat) (l : List Ac) (g : Int) (w : World) (hc : ActsAt w a l) (h : ov l = true) :
    Calls Try.prog 3 #[.slice a l.length cap, .int .i64 g] w fun e w' => e = .returned (.bool true) ∧ Below w.heap.size w w' := by
  have HO : Hid (∀ W, Below w.heap.size w W → Calls Try.prog 10 #[.slice a l.length cap] W fun e w' => e = .returned (.bool (ov l)) ∧ w' = W) := fun W h => over_any a cap l W (hc.below h)
  clear hc
  rw [h] at HO
  clear h
  go_enter Try.func3, Try.ntmps3
  go_wp2_with fail
  refine (works_any _).mono ?_
  rintro e w1 ⟨rfl, hb⟩
  go_wp2_with fail
  refine (HO.out _ hb).mono ?_
  rintro e w2 ⟨rfl, rfl⟩
  go_wp2_with fail
  go_ret
  exact ⟨rfl, hb⟩

set_option maxRecDepth 100000 in
set_option maxHeartbeats 8000000 in
theorem does_in (a : Option Addr) (cap : Nat) (l : List Ac) (g : Int) (w : World) (hc : ActsAt w a l) (hov : ov l = false) :
    Calls Try.prog 3 #[.slice a l.length cap, .int .i64 g] w fun e w' => e = .returned (.bool true) ∧ Below w.heap.size w w' := by
  have HO : Hid (∀ W, Below w.heap.size w W → Calls Try.prog 10 #[.slice a l.length cap] W fun e w' => e = .returned (.bool false) ∧ w' = W) := fun W h => by
    have := over_any a cap l W (hc.below h)
    rw [hov] at this
    exact this
  have hl := (ov_no hov).1
  have HS : Hid (∀ i (hi : i < l.length), l[i].l.length ≤ 80) := (ov_no hov).2
  have HC : Hid (ActsAt w a l) := hc
  clear hc hov
  go_enter Try.func3, Try.ntmps3
  go_wp2_with fail
  refine (works_any _).mono ?_
  rintro e w1 ⟨rfl, hb⟩
  go_wp2_with fail
  refine (HO.out _ hb).mono ?_
  rintro e w2 ⟨rfl, rfl⟩
  go_wp2_with fail
  refine (newT hb).mono ?_
  rintro e w3 ⟨c, rfl, h3, -⟩
  clear hb HO
  go_wp2_with fail
  refine (newB h3).mono ?_
  rintro e w4 ⟨r, rfl, h4⟩
  clear h3
  go_wp2_with fail
  go_loopw [8] (fun s8 wr => ∃ (i : Nat) (S : Cs), i ≤ l.length ∧ s8 = .int .i64 i ∧ Bo w i wr c r S) (fun s8 _ => l.length - (intOf s8).toNat)
  case atStart => exact ⟨0, _, by omega, rfl, h4⟩
  case round =>
    clear h4
    obtain ⟨i, S, hi, rfl, h5⟩ := hrel
    by_cases hlt : i < l.length
    -- ACTS
    · have hil : decide ((i : Int) < (l.length : Int)) = true := by simp; omega
      obtain ⟨b, off, rfl, hcell⟩ := HC.out.told hlt
      have hIn := HC.out.ints hlt
      have hS := HS.out i hlt
      obtain ⟨k0, k1, k2, k3⟩ := hcell wr h5.bel
      obtain ⟨K, hK⟩ : ∃ K, K = l[i].k := ⟨_, rfl⟩
      obtain ⟨A, hA⟩ : ∃ A, A = l[i].a := ⟨_, rfl⟩
      obtain ⟨M, hM⟩ : ∃ M, M = l[i].l := ⟨_, rfl⟩
      obtain ⟨C, hC⟩ : ∃ C, C = l[i].cap := ⟨_, rfl⟩
      obtain ⟨G, hG⟩ : ∃ C, C = l[i].g := ⟨_, rfl⟩
      obtain ⟨X, hX⟩ : ∃ C, C = l[i].n := ⟨_, rfl⟩
      simp only [← hK, ← hA, ← hM, ← hC, ← hG, ← hX] at hcell k0 k1 k2 k3 hIn hS
      have HCELL : Hid (∀ W, Below w.heap.size w W → W.cell? ⟨b, off + i * 4, none⟩ = some (.int .i64 K) ∧ W.cell? ⟨b, off + i * 4 + 1, none⟩ = some (.slice A M.length C) ∧ W.cell? ⟨b, off + i * 4 + 2, none⟩ = some (.int .i64 G) ∧ W.cell? ⟨b, off + i * 4 + 3, none⟩ = some (.int .i64 X)) := hcell
      have HIT : Hid (Ints w A M) := hIn
      clear hcell hIn hK hA hM hC hG hX
      clear HC HS
      go_upto_block 2 with fail
      go_cut [9, 10, 11, 12] (fun s9 s10 s11 s12 wx => ∃ (x y : Int) (S' : Cs), s9 = .int .i64 x ∧ s10 = .int .i64 x ∧ s11 = .int .i64 y ∧ s12 = .int .i64 y ∧ Bo w (i + 1) wx c r S')
      case first =>
        by_cases q0 : K.tmod 3 = 0
        · have z0 : (K.tmod 3 == 0) = true := by simpa using q0
          have H1 : Hid (∀ m, Calls Try.prog 13 #[.pointer (some ⟨c, 0, none⟩), .slice A M.length C, .int .i64 X] (wr.drewN m) fun e w' => e = .returned (.tuple #[.int .i64 (tryN S M X), .int .i64 (tryE S M X)]) ∧ Mi w i w' c r S (tryC S M X)) := fun m => Bo.tryP X (h5.drewN m) HIT.out (by omega) (by omega)
          have H2 : Hid (∀ W m, Mi w i W c r S (tryC S M X) → Calls Try.prog 14 #[.pointer (some ⟨r, 0, none⟩), .slice A M.length C, .int .i64 X] (W.drewN m) fun e w' => e = .returned (.tuple #[.int .i64 (tryN S M X), .int .i64 (tryE S M X)]) ∧ Bo w (i + 1) w' c r (tryC S M X)) := fun W m h => Mi.tryQ X (h.drewN m) HIT.out (by omega) (by omega)
          obtain ⟨S1, hS1⟩ : ∃ S1, S1 = tryC S M X := ⟨_, rfl⟩
          obtain ⟨E, hE⟩ : ∃ S1, S1 = tryE S M X := ⟨_, rfl⟩
          obtain ⟨A1, hA1⟩ : ∃ S1, S1 = tryN S M X := ⟨_, rfl⟩
          rw [← hS1, ← hE, ← hA1] at H1 H2
          clear hS1 hE hA1 hS HIT h5 q0
          go_upto_region 15 with fail
          go_cut [9, 11] (fun s9 s11 wx => s9 = .int .i64 A1 ∧ s11 = .int .i64 E ∧ Mi w i wx c r S S1)
          case first =>
            clear H2
            go_region_with (go_at_call 13; refine (H1.out 1).mono ?_; rintro e w5 ⟨rfl, h6⟩)
            all_goals
              go_wp2_with fail
              go_meet
              exact ⟨rfl, rfl, h6⟩
          case rest =>
            clear k0 k1 k2 k3 H1
            obtain ⟨rfl, rfl, h6⟩ := hcut
            obtain ⟨k0, k1, k2, k3⟩ := HCELL.out _ h6.bel
            clear HCELL
            go_wp2_with fail
            go_region_with (go_at_call 14; refine (H2.out _ 1 h6).mono ?_; rintro e w7 ⟨rfl, h8⟩)
            all_goals
              go_wp2_with fail
              go_meet
              exact ⟨_, _, _, rfl, rfl, rfl, rfl, h8⟩
        · have z0 : (K.tmod 3 == 0) = false := by simpa using q0
          by_cases q1 : K.tmod 3 = 1
          · have z1 : (K.tmod 3 == 1) = true := by simpa using q1
            have H1 : Hid (∀ m, Calls Try.prog 15 #[.pointer (some ⟨c, 0, none⟩), .slice A M.length C, .int .i64 X] (wr.drewN m) fun e w' => e = .returned (.int .i64 (giveE S M X)) ∧ Mi w i w' c r S (giveC S M X)) := fun m => Bo.giveP X (h5.drewN m) HIT.out (by omega)
            have H2 : Hid (∀ W m, Mi w i W c r S (giveC S M X) → Calls Try.prog 16 #[.pointer (some ⟨r, 0, none⟩), .slice A M.length C, .int .i64 X] (W.drewN m) fun e w' => e = .returned (.int .i64 (giveE S M X)) ∧ Bo w (i + 1) w' c r (giveC S M X)) := fun W m h => Mi.giveQ X (h.drewN m) HIT.out (by omega)
            obtain ⟨S1, hS1⟩ : ∃ S1, S1 = giveC S M X := ⟨_, rfl⟩
            obtain ⟨E, hE⟩ : ∃ S1, S1 = giveE S M X := ⟨_, rfl⟩
            rw [← hS1, ← hE] at H1 H2
            clear hS1 hE hS HIT h5 q0 q1
            go_upto_region 18 with fail
            go_cut [11] (fun s11 wx => s11 = .int .i64 E ∧ Mi w i wx c r S S1)
            case first =>
              clear H2
              go_region_with (go_at_call 15; refine (H1.out 1).mono ?_; rintro e w5 ⟨rfl, h6⟩)
              all_goals
                go_wp2_with fail
                go_meet
                exact ⟨rfl, h6⟩
            case rest =>
              clear k0 k1 k2 k3 H1
              obtain ⟨rfl, h6⟩ := hcut
              obtain ⟨k0, k1, k2, k3⟩ := HCELL.out _ h6.bel
              clear HCELL
              go_wp2_with fail
              go_region_with (go_at_call 16; refine (H2.out _ 1 h6).mono ?_; rintro e w7 ⟨rfl, h8⟩)
              all_goals
                go_wp2_with fail
                go_meet
                exact ⟨_, _, _, rfl, rfl, rfl, rfl, h8⟩
          · have z1 : (K.tmod 3 == 1) = false := by simpa using q1
            by_cases q2 : K.tmod 3 = 2
            · have z2 : (K.tmod 3 == 2) = true := by simpa using q2
              have H1 : Hid (∀ m, Calls Try.prog 17 #[.pointer (some ⟨c, 0, none⟩), .int .i64 G, .int .i64 X] (wr.drewN m) fun e w' => e = .returned (.int .i64 (setE G X)) ∧ Mi w i w' c r S (setC S G X)) := fun m => Bo.setP G X (h5.drewN m)
              have H2 : Hid (∀ W m, Mi w i W c r S (setC S G X) → Calls Try.prog 18 #[.pointer (some ⟨r, 0, none⟩), .int .i64 G, .int .i64 X] (W.drewN m) fun e w' => e = .returned (.int .i64 (setE G X)) ∧ Bo w (i + 1) w' c r (setC S G X)) := fun W m h => Mi.setQ G X (h.drewN m)
              obtain ⟨S1, hS1⟩ : ∃ S1, S1 = setC S G X := ⟨_, rfl⟩
              obtain ⟨E, hE⟩ : ∃ S1, S1 = setE G X := ⟨_, rfl⟩
              rw [← hS1, ← hE] at H1 H2
              clear hS1 hE hS HIT h5 q0 q1 q2
              go_upto_region 21 with fail
              go_cut [11] (fun s11 wx => s11 = .int .i64 E ∧ Mi w i wx c r S S1)
              case first =>
                clear H2
                go_region_with (go_at_call 17; refine (H1.out 1).mono ?_; rintro e w5 ⟨rfl, h6⟩)
                all_goals
                  go_wp2_with fail
                  go_meet
                  exact ⟨rfl, h6⟩
              case rest =>
                clear k0 k1 k2 k3 H1
                obtain ⟨rfl, h6⟩ := hcut
                obtain ⟨k0, k1, k2, k3⟩ := HCELL.out _ h6.bel
                clear HCELL
                go_wp2_with fail
                go_region_with (go_at_call 18; refine (H2.out _ 1 h6).mono ?_; rintro e w7 ⟨rfl, h8⟩)
                all_goals
                  go_wp2_with fail
                  go_meet
                  exact ⟨_, _, _, rfl, rfl, rfl, rfl, h8⟩
            · have z2 : (K.tmod 3 == 2) = false := by simpa using q2
              have h6 := h5.more (M := i + 1) (by omega)
              clear h5 hS HIT q0 q1 q2 HCELL
              go_wp2_with fail
              go_meet
              exact ⟨_, _, _, rfl, rfl, rfl, rfl, h6⟩
      case rest =>
        clear h5 HIT HCELL k0 k1 k2 k3 hS
        obtain ⟨x, y, S', rfl, rfl, rfl, rfl, h6⟩ := hcut
        have zx : (x != x) = false := by simp
        have zy : (y != y) = false := by simp
        go_wp2_with fail
        exact ⟨⟨i + 1, _, by omega, by go_num, h6⟩, by simp [intOf]; omega⟩
    -- REST
    · obtain rfl : i = l.length := by omega
      have hil : decide ((l.length : Int) < (l.length : Int)) = false := by simp
      clear HC HS
      go_wp2_with fail
      go_loopw [13] (fun s13 wq => ∃ j : Nat, j ≤ 64 ∧ s13 = .int .i64 j ∧ Bo w l.length wq c r S) (fun s13 _ => 64 - (intOf s13).toNat)
      case atStart => exact ⟨0, by omega, rfl, h5⟩
      case round =>
        clear h5
        obtain ⟨j, hj, rfl, h9⟩ := hrel
        by_cases hjl : j < 64
        · have hjd : decide ((j : Int) < 64) = true := by simp; omega
          obtain ⟨g1, c1, g2, c2, g3, c3, g4, c4, hA⟩ := h9.q
          obtain ⟨p1, p2, p3, p4⟩ := hA.ptrs
          have e1 := hA.r1.at hjl
          have e2 := hA.r2.at hjl
          have e3 := hA.r3.at hjl
          have e4 := hA.r4.at hjl
          obtain ⟨u, hu⟩ : ∃ x, x = S.u j := ⟨_, rfl⟩
          obtain ⟨lm, hlm⟩ : ∃ x, x = S.l j := ⟨_, rfl⟩
          obtain ⟨f, hf⟩ : ∃ x, x = S.f j := ⟨_, rfl⟩
          obtain ⟨p, hp⟩ : ∃ x, x = S.p j := ⟨_, rfl⟩
          have G1 : Hid (∀ W, Bo w l.length W c r S → Calls Try.prog 19 #[.pointer (some ⟨c, 0, none⟩), .int .i64 j] W fun e w' => e = .returned (.int .i64 u) ∧ Below W.heap.size W w') := fun W h => by rw [hu]; exact puse _ _ c S j W h.p
          have G2 : Hid (∀ W, Bo w l.length W c r S → Calls Try.prog 20 #[.pointer (some ⟨c, 0, none⟩), .int .i64 j] W fun e w' => e = .returned (.int .i64 lm) ∧ Below W.heap.size W w') := fun W h => by rw [hlm]; exact plim _ _ c S j W h.p
          have G3 : Hid (∀ W, Bo w l.length W c r S → Calls Try.prog 21 #[.pointer (some ⟨c, 0, none⟩), .int .i64 j] W fun e w' => e = .returned (.int .i64 f) ∧ Below W.heap.size W w') := fun W h => by rw [hf]; exact pfail _ _ c S j W h.p
          have G4 : Hid (∀ W, Bo w l.length W c r S → Calls Try.prog 22 #[.pointer (some ⟨c, 0, none⟩), .int .i64 j] W fun e w' => e = .returned (.int .i64 p) ∧ Below W.heap.size W w') := fun W h => by rw [hp]; exact ppeak _ _ c S j W h.p
          rw [← hu] at e1
          rw [← hlm] at e2
          rw [← hf] at e3
          rw [← hp] at e4
          clear hu hlm hf hp hA
          have z1 : (u != u) = false := by simp
          have z2 : (lm != lm) = false := by simp
          have z3 : (f != f) = false := by simp
          have z4 : (p != p) = false := by simp
          have q1 := Up.cell p1
          have q2 := Up.cell p2
          have q3 := Up.cell p3
          have q4 := Up.cell p4
          have y1 := Up.cell e1
          have y2 := Up.cell e2
          have y3 := Up.cell e3
          have y4 := Up.cell e4
          have hne := Up.any wr
          clear hil hlt
          go_wp2_with fail
          refine wp_region_up (by kernel_rfl) (by kernel_rfl) ?_
          repeat (go_big_quiet_step (first | (go_at_call 19; refine Up.call (G1.out _ (h9.up _))) | (go_at_call 20; refine Up.call (G2.out _ (h9.up _))) | (go_at_call 21; refine Up.call (G3.out _ (h9.up _))) | (go_at_call 22; refine Up.call (G4.out _ (h9.up _)))))
          refine wpQuiet_nil ?_
          intro w17 hw'
          obtain ⟨⟨_, hbw⟩, rfl⟩ := hw'
          have h10 := h9.grow hbw
          clear p1 p2 p3 p4 e1 e2 e3 e4 q1 q2 q3 q4 y1 y2 y3 y4 hne G1 G2 G3 G4 h9 hbw
          go_wp2_with fail
          exact ⟨⟨j + 1, by omega, by go_num, h10⟩, by simp [intOf]; omega⟩
        · obtain rfl : j = 64 := by omega
          have hjd : decide (((64 : Nat) : Int) < 64) = false := by simp
          have HRx := HR
          cases hg : isG g with
          | true =>
            go_wp2_with fail
            refine (HRx.out _ _).mono ?_
            rintro e w6 ⟨rfl, rfl⟩
            rw [hg]
            go_wp2_with fail
            go_ret
            exact ⟨rfl, h9.bel⟩
          | false =>
            obtain ⟨o1, o2, o3, o4⟩ := h9.p.ok.out g hg
            have G1 : Hid (∀ W, Bo w l.length W c r S → Calls Try.prog 19 #[.pointer (some ⟨c, 0, none⟩), .int .i64 g] W fun e w' => e = .returned (.int .i64 0) ∧ Bo w l.length w' c r S) := fun W h => by rw [← o1]; exact (puse _ _ c S g W h.p).mono fun _ _ ⟨g1, g2⟩ => ⟨g1, h.grow g2⟩
            have G2 : Hid (∀ W, Bo w l.length W c r S → Calls Try.prog 20 #[.pointer (some ⟨c, 0, none⟩), .int .i64 g] W fun e w' => e = .returned (.int .i64 0) ∧ Bo w l.length w' c r S) := fun W h => by rw [← o2]; exact (plim _ _ c S g W h.p).mono fun _ _ ⟨g1, g2⟩ => ⟨g1, h.grow g2⟩
            have G3 : Hid (∀ W, Bo w l.length W c r S → Calls Try.prog 21 #[.pointer (some ⟨c, 0, none⟩), .int .i64 g] W fun e w' => e = .returned (.int .i64 0) ∧ Bo w l.length w' c r S) := fun W h => by rw [← o3]; exact (pfail _ _ c S g W h.p).mono fun _ _ ⟨g1, g2⟩ => ⟨g1, h.grow g2⟩
            have G4 : Hid (∀ W, Bo w l.length W c r S → Calls Try.prog 22 #[.pointer (some ⟨c, 0, none⟩), .int .i64 g] W fun e w' => e = .returned (.int .i64 0) ∧ Bo w l.length w' c r S) := fun W h => by rw [← o4]; exact (ppeak _ _ c S g W h.p).mono fun _ _ ⟨g1, g2⟩ => ⟨g1, h.grow g2⟩
            clear o1 o2 o3 o4 hil hlt
            go_wp2_with fail
            refine (HRx.out _ _).mono ?_
            rintro e w6 ⟨rfl, rfl⟩
            rw [hg]
            go_wp2_with fail
            refine (G1.out _ h9).mono ?_
            rintro e w7 ⟨rfl, h10⟩
            go_wp2_with fail
            refine (G2.out _ h10).mono ?_
            rintro e w8 ⟨rfl, h11⟩
            go_wp2_with fail
            refine (G3.out _ h11).mono ?_
            rintro e w9 ⟨rfl, h12⟩
            go_wp2_with fail
            refine (G4.out _ h12).mono ?_
            rintro e w10 ⟨rfl, h13⟩
            go_wp2_with fail
            go_ret
            exact ⟨rfl, h13.bel⟩

theorem does_walk (a : Option Addr) (cap : Nat) (l : List Ac) (g : Int) (w : World) (hc : ActsAt w a l) :
    Calls Try.prog 3 #[.slice a l.length cap, .int .i64 g] w fun e w' => e = .returned (.bool true) ∧ Below w.heap.size w w' := by
  cases hov : ov l with
  | true => exact does_out a cap l g w hc hov
  | false => exact does_in a cap l g w hc hov
end Go.Proofs.Ytpageadhmgoddaa
