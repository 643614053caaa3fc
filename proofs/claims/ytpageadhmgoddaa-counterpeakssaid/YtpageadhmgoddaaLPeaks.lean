/-
  The law CounterPeaks walked.
-/
import Derived.Test.YtpageadhmgoddaaActs
namespace Go.Proofs.Ytpageadhmgoddaa
open Go.RowKit

theorem Ct.drewN {w0 w : World} {N c : Nat} {S : Cs} (h : Ct w0 N w c S) (n : Nat) : Ct w0 N (w.drewN n) c S := ⟨⟨h.is.row.drewN n, h.is.lo, h.is.ok⟩, below_drawn h.bel n⟩
theorem Ct.ty {C : TypeId → Bool} {w0 w w' : World} {N c : Nat} {S : Cs} (h : Ct w0 N w c S) (hb : Below w0.heap.size w w') (ht : Ty C w w') (h1 : C 49 = false) : Ct w0 N w' c S := ⟨h.is.ty ht h1, h.bel.trans hb⟩

/-- What a Try leaves, told by its answer. -/
theorem peaks_math {N : Nat} {S : Cs} (L : List Int) (n : Int) (h : OkC N S) : ∃ (S1 : Cs) (A E : Int), S1 = tryC S L n ∧ A = tryN S L n ∧ E = tryE S L n ∧
    (∀ g, S1.f g = S.f g + (if E = 22 ∧ g = A then 1 else 0)) ∧ (∀ g, S.p g ≤ S1.p g) ∧ (E ≠ 0 → ∀ g, S1.p g = S.p g) ∧ (∀ g, S1.u g ≤ S1.p g) ∧ (E = 0 ∨ E = 1 ∨ E = 22) := by
  refine ⟨_, _, _, rfl, rfl, rfl, ?_⟩
  have ho := (ok_try (L := L) (n := n) h).p
  cases hk : okC L n with
  | false =>
    obtain ⟨e1, e2, e3⟩ := try_bad (S := S) hk
    rw [e1] at ho ⊢
    rw [e2, e3]
    exact ⟨fun g => by simp, fun _ => Int.le_refl _, fun _ _ => rfl, fun g => (ho g).1, by omega⟩
  | true =>
    cases hf : L.find? (over S n) with
    | none =>
      obtain ⟨e1, e2, e3⟩ := try_ok hk hf
      rw [e1] at ho ⊢
      rw [e2, e3]
      refine ⟨fun g => by simp [growC], fun g => ?_, fun h0 => absurd rfl h0, fun g => (ho g).1, by omega⟩
      simp only [growC]
      split <;> omega
    | some x =>
      obtain ⟨e1, e2, e3⟩ := try_fail hk hf
      rw [e1] at ho ⊢
      rw [e2, e3]
      refine ⟨fun g => ?_, fun _ => Int.le_refl _, fun _ _ => rfl, fun g => (ho g).1, by omega⟩
      simp only [failC, upd, true_and]
      split
      · rename_i e; rw [e]
      · omega

theorem peaks_out (a : Option Addr) (cap : Nat) (l : List Ac) (q : Option Addr) (cap' : Nat) (L : List Int) (n : Int) (w : World) (hc : ActsAt w a l) (h : ov l = true ∨ ov l = false ∧ 80 < L.length) :
    Calls Try.prog 6 #[.slice a l.length cap, .slice q L.length cap', .int .i64 n] w fun e w' => e = .returned (.bool true) ∧ Below w.heap.size w w' := by
  have HO : Hid (∀ W, Below w.heap.size w W → Calls Try.prog 10 #[.slice a l.length cap] W fun e w' => e = .returned (.bool (ov l)) ∧ w' = W) := fun W h => over_any a cap l W (hc.below h)
  clear hc
  rcases h with h | ⟨h, h2⟩
  · rw [h] at HO
    clear h
    go_enter Try.func6, Try.ntmps6
    go_wp2_with fail
    refine (works_any _).mono ?_
    rintro e w1 ⟨rfl, hb⟩
    go_wp2_with fail
    refine (HO.out _ hb).mono ?_
    rintro e w2 ⟨rfl, rfl⟩
    go_wp2_with fail
    go_ret
    exact ⟨rfl, hb⟩
  · rw [h] at HO
    have d0 : decide ((80 : Int) < (L.length : Int)) = true := by simp; omega
    clear h h2
    go_enter Try.func6, Try.ntmps6
    go_wp2_with fail
    refine (works_any _).mono ?_
    rintro e w1 ⟨rfl, hb⟩
    go_wp2_with fail
    refine (HO.out _ hb).mono ?_
    rintro e w2 ⟨rfl, rfl⟩
    go_wp2_with fail
    go_ret
    exact ⟨rfl, hb⟩

set_option maxRecDepth 100000 in
set_option maxHeartbeats 8000000 in
theorem peaks_in (a : Option Addr) (cap : Nat) (l : List Ac) (q : Option Addr) (cap' : Nat) (L : List Int) (n : Int) (w : World) (hc : ActsAt w a l) (hI : Ints w q L) (hov : ov l = false) (hL : L.length ≤ 80) :
    Calls Try.prog 6 #[.slice a l.length cap, .slice q L.length cap', .int .i64 n] w fun e w' => e = .returned (.bool true) ∧ Below w.heap.size w w' := by
  have HO : Hid (∀ W, Below w.heap.size w W → Calls Try.prog 10 #[.slice a l.length cap] W fun e w' => e = .returned (.bool false) ∧ w' = W) := fun W h => by
    have := over_any a cap l W (hc.below h)
    rw [hov] at this
    exact this
  have hl := (ov_no hov).1
  have HS : Hid (∀ i (hi : i < l.length), l[i].l.length ≤ 80) := (ov_no hov).2
  have HC : Hid (ActsAt w a l) := hc
  have HI : Hid (Ints w q L) := hI
  have d0 : decide ((80 : Int) < (L.length : Int)) = false := by simp; omega
  clear hc hI hov
  go_enter Try.func6, Try.ntmps6
  go_wp2_with fail
  refine (works_any _).mono ?_
  rintro e w1 ⟨rfl, hb⟩
  go_wp2_with fail
  refine (HO.out _ hb).mono ?_
  rintro e w2 ⟨rfl, rfl⟩
  go_wp2_with fail
  refine (newT hb).mono ?_
  rintro e w3 ⟨c, rfl, h3, -⟩
  clear hb
  go_wp2_with fail
  go_loopw [9] (fun s9 wr => ∃ (i : Nat) (S : Cs), i ≤ l.length ∧ s9 = .int .i64 i ∧ Ct w i wr c S) (fun s9 _ => l.length - (intOf s9).toNat)
  case atStart => exact ⟨0, _, by omega, rfl, h3⟩
  case round =>
    clear h3
    obtain ⟨i, S, hi, rfl, h5⟩ := hrel
    by_cases hlt : i < l.length
    -- ACTS
    · have hil : decide ((i : Int) < (l.length : Int)) = true := by simp; omega
      obtain ⟨b, off, rfl, hcell⟩ := HC.out.told hlt
      have hIn := HC.out.ints hlt
      have hS := HS.out i hlt
      obtain ⟨k0, k1, k2, k3⟩ := hcell wr h5.bel
      obtain ⟨K, hK⟩ : ∃ K, K = l[i].k := ⟨_, rfl⟩
      obtain ⟨A, hA⟩ : ∃ A, A = l[i].a := ⟨_, rfl⟩
      obtain ⟨M, hM⟩ : ∃ M, M = l[i].l := ⟨_, rfl⟩
      obtain ⟨C, hC⟩ : ∃ C, C = l[i].cap := ⟨_, rfl⟩
      obtain ⟨G, hG⟩ : ∃ C, C = l[i].g := ⟨_, rfl⟩
      obtain ⟨X, hX⟩ : ∃ C, C = l[i].n := ⟨_, rfl⟩
      simp only [← hK, ← hA, ← hM, ← hC, ← hG, ← hX] at hcell k0 k1 k2 k3 hIn hS
      have HCELL : Hid (∀ W, Below w.heap.size w W → W.cell? ⟨b, off + i * 4, none⟩ = some (.int .i64 K) ∧ W.cell? ⟨b, off + i * 4 + 1, none⟩ = some (.slice A M.length C) ∧ W.cell? ⟨b, off + i * 4 + 2, none⟩ = some (.int .i64 G) ∧ W.cell? ⟨b, off + i * 4 + 3, none⟩ = some (.int .i64 X)) := hcell
      have HIN : Hid (∀ W, Below w.heap.size w W → Stay w.heap.size W A M) := fun W h => Stay.came hIn h
      clear hcell hIn hK hA hM hC hG hX
      clear HI HC HS HO
      by_cases q0 : K.tmod 3 = 0
      · have z0 : (K.tmod 3 == 0) = true := by simpa using q0
        have H1 : Hid (∀ m, Calls Try.prog 13 #[.pointer (some ⟨c, 0, none⟩), .slice A M.length C, .int .i64 X] (wr.drewN m) fun e w' => e = .returned (.tuple #[.int .i64 (tryN S M X), .int .i64 (tryE S M X)]) ∧ Ct w (i + 1) w' c (tryC S M X)) := fun m => (tryT X (h5.drewN m) (HIN.out _ (h5.drewN m).bel) (by omega) (by omega)).mono fun _ _ ⟨g1, g2, _⟩ => ⟨g1, g2⟩
        clear hS HIN h5 q0
        go_wp2_with fail
        go_region_with (go_at_call 13; refine (H1.out 1).mono ?_; rintro e w5 ⟨rfl, h6⟩)
        all_goals
          clear k0 k1 k2 k3 H1 HCELL
          go_wp2_with fail
          exact ⟨⟨i + 1, _, by omega, by go_num, h6⟩, by simp [intOf]; omega⟩
      · have z0 : (K.tmod 3 == 0) = false := by simpa using q0
        by_cases q1 : K.tmod 3 = 1
        · have z1 : (K.tmod 3 == 1) = true := by simpa using q1
          have H1 : Hid (∀ m, Calls Try.prog 15 #[.pointer (some ⟨c, 0, none⟩), .slice A M.length C, .int .i64 X] (wr.drewN m) fun e w' => e = .returned (.int .i64 (giveE S M X)) ∧ Ct w (i + 1) w' c (giveC S M X)) := fun m => (giveT X (h5.drewN m) (HIN.out _ (h5.drewN m).bel) (by omega)).mono fun _ _ ⟨g1, g2, _⟩ => ⟨g1, g2.more (by omega)⟩
          clear hS HIN h5 q0 q1
          go_wp2_with fail
          go_region_with (go_at_call 15; refine (H1.out 1).mono ?_; rintro e w5 ⟨rfl, h6⟩)
          all_goals
            clear k0 k1 k2 k3 H1 HCELL
            go_wp2_with fail
            exact ⟨⟨i + 1, _, by omega, by go_num, h6⟩, by simp [intOf]; omega⟩
        · have z1 : (K.tmod 3 == 1) = false := by simpa using q1
          by_cases q2 : K.tmod 3 = 2
          · have z2 : (K.tmod 3 == 2) = true := by simpa using q2
            have H1 : Hid (∀ m, Calls Try.prog 17 #[.pointer (some ⟨c, 0, none⟩), .int .i64 G, .int .i64 X] (wr.drewN m) fun e w' => e = .returned (.int .i64 (setE G X)) ∧ Ct w (i + 1) w' c (setC S G X)) := fun m => (setT G X (h5.drewN m)).mono fun _ _ ⟨g1, g2, _⟩ => ⟨g1, g2.more (by omega)⟩
            clear hS HIN h5 q0 q1 q2
            go_wp2_with fail
            go_region_with (go_at_call 17; refine (H1.out 1).mono ?_; rintro e w5 ⟨rfl, h6⟩)
            all_goals
              clear k0 k1 k2 k3 H1 HCELL
              go_wp2_with fail
              exact ⟨⟨i + 1, _, by omega, by go_num, h6⟩, by simp [intOf]; omega⟩
          · have z2 : (K.tmod 3 == 2) = false := by simpa using q2
            clear hS HIN q0 q1 q2 HCELL
            go_wp2_with fail
            exact ⟨⟨i + 1, S, by omega, by go_num, h5.more (by omega)⟩, by simp [intOf]; omega⟩
    -- REST
    · obtain rfl : i = l.length := by omega
      have hil : decide ((l.length : Int) < (l.length : Int)) = false := by simp
      clear HC HS HO
      go_wp2_with fail
      go_loopw [10, 11, 12] (fun s10 s11 s12 wq => ∃ j : Nat, j ≤ 64 ∧ s12 = .int .i64 j ∧ wq.ownsRow w.heap.size 3 1 s10 (rw64 S.p j).length ((rw64 S.p j).map iv) ∧ wq.ownsRow w.heap.size 3 1 s11 (rw64 S.f j).length ((rw64 S.f j).map iv) ∧ Dj s10 s11 ∧ Ct w l.length wq c S) (fun _ _ s12 _ => 64 - (intOf s12).toNat)
      case atStart => exact ⟨0, by omega, rfl, World.ownsRow_nil _ _ _ _, World.ownsRow_nil _ _ _ _, dj_nil _, h5⟩
      case round =>
        clear h5
        obtain ⟨j, hj, rfl, hr1, hr2, hdj, h6⟩ := hrel
        by_cases hjl : j < 64
        · have hjd : decide ((j : Int) < 64) = true := by simp; omega
          obtain ⟨x, hx⟩ : ∃ x, x = S.p j := ⟨_, rfl⟩
          obtain ⟨y, hy⟩ : ∃ x, x = S.f j := ⟨_, rfl⟩
          have T1 : Hid (rw64 S.p (j + 1) = rw64 S.p j ++ [x]) := by rw [hx]; exact rw64_succ _ _
          have T2 : Hid (rw64 S.f (j + 1) = rw64 S.f j ++ [y]) := by rw [hy]; exact rw64_succ _ _
          have G1 : Hid (∀ W, Ct w l.length W c S → Calls Try.prog 22 #[.pointer (some ⟨c, 0, none⟩), .int .i64 j] W fun e w' => e = .returned (.int .i64 x) ∧ Ct w l.length w' c S ∧ Below W.heap.size W w') := fun W h => by rw [hx]; exact peakT (j : Int) h
          have G2 : Hid (∀ W, Ct w l.length W c S → Calls Try.prog 21 #[.pointer (some ⟨c, 0, none⟩), .int .i64 j] W fun e w' => e = .returned (.int .i64 y) ∧ Ct w l.length w' c S ∧ Below W.heap.size W w') := fun W h => by rw [hy]; exact failT (j : Int) h
          have hl1 : (rw64 S.p j).length ≤ 1000000 := by rw [rw64_len]; omega
          have hl2 : (rw64 S.f j).length ≤ 1000000 := by rw [rw64_len]; omega
          obtain ⟨R1, hR1⟩ : ∃ R, R = rw64 S.p j := ⟨_, rfl⟩
          obtain ⟨R2, hR2⟩ : ∃ R, R = rw64 S.f j := ⟨_, rfl⟩
          rw [← hR1] at T1 hl1 hr1
          rw [← hR2] at T2 hl2 hr2
          clear hx hy hR1 hR2 hil hlt
          have HDJ : Hid (Dj u10 u11) := hdj
          clear hdj
          go_wp2_with fail
          refine (G1.out _ h6).mono ?_
          rintro e w5 ⟨rfl, h7, hb7⟩
          have hr1' := own_below hr1 hb7
          have hr2' := own_below hr2 hb7
          have hB7 := h7.bel.size
          clear h6 hr1 hr2 hb7 G1
          go_upto_region 23 with (at_builtin; refine app_up w.heap.size R1 _ rfl _ _ rfl _ rfl hr1' x rfl hl1 hB7 ?_; intro v' w8 hown8 hb8 hty8 hg8 hat8)
          have hr2'' := Dj.keep HDJ.out hr2' hg8
          have HDJ2 : Hid (Dj v' u11) := Dj.app HDJ.out hr2' hat8
          have h8 := h7.ty hb8 hty8 rfl
          clear hr1' hr2' h7 hg8 hat8 hty8 hb8 HDJ hB7
          go_wp2_with fail
          refine (G2.out _ h8).mono ?_
          rintro e w9 ⟨rfl, h9, hb9⟩
          have hr1' := own_below hown8 hb9
          have hr2' := own_below hr2'' hb9
          have hB9 := h9.bel.size
          clear h8 hown8 hr2'' hb9 G2
          go_wp2_with (at_builtin; refine app_up w.heap.size R2 _ rfl _ _ rfl _ rfl hr2' y rfl hl2 hB9 ?_; intro v'' w10 hown10 hb10 hty10 hg10 hat10)
          refine ⟨⟨j + 1, by omega, by go_num, ?_, ?_, ?_, h9.ty hb10 hty10 rfl⟩, by simp [intOf]; omega⟩
          · rw [T1.out]; exact Dj.keep HDJ2.out.symm hr1' hg10
          · rw [T2.out]; exact hown10
          · exact (Dj.app HDJ2.out.symm hr1' hat10).symm
        · obtain rfl : j = 64 := by omega
          have hjd : decide (((64 : Nat) : Int) < 64) = false := by simp
          clear hil hlt hjl hj
          obtain ⟨S1, A, E, r1, r2, r3, m1, m2, m3, m4, m5⟩ := peaks_math L n h6.is.ok
          have H1 : Hid (Calls Try.prog 13 #[.pointer (some ⟨c, 0, none⟩), .slice q L.length cap', .int .i64 n] wr fun e w' => e = .returned (.tuple #[.int .i64 A, .int .i64 E]) ∧ Ct w (l.length + 1) w' c S1 ∧ Ty pt wr w') := by
            show Calls _ _ _ _ _
            rw [r1, r2, r3]
            exact (tryT n h6 (Stay.came HI.out h6.bel) (by omega) (by omega)).mono fun _ _ ⟨g1, g2, g3, _⟩ => ⟨g1, g2, g3⟩
          have HM : Hid ((∀ g, S1.f g = S.f g + (if E = 22 ∧ g = A then 1 else 0)) ∧ (∀ g, S.p g ≤ S1.p g) ∧ (E ≠ 0 → ∀ g, S1.p g = S.p g) ∧ (∀ g, S1.u g ≤ S1.p g)) := ⟨m1, m2, m3, m4⟩
          have HF : Hid (∀ g, 0 ≤ S.f g ∧ S.f g ≤ 80) := fun g => by have := h6.is.ok.f g; omega
          clear r1 r2 r3 m1 m2 m3 m4 HI
          go_wp2_with fail
          refine H1.out.mono ?_
          rintro e w5 ⟨rfl, h7, t7⟩
          have hr1' := own_ty hr1 t7 rfl
          have hr2' := own_ty hr2 t7 rfl
          obtain ⟨g1, cp1, rfl, hc1⟩ := own_cell hr1'
          obtain ⟨g2, cp2, rfl, hc2⟩ := own_cell hr2'
          have hlt1 : g1 < w5.heap.size := block_lt_of_cell (hc1 0 (by decide))
          have hlt2 : g2 < w5.heap.size := block_lt_of_cell (hc2 0 (by decide))
          have HC1 : Hid (∀ W, Below w5.heap.size w5 W → ∀ i, i < 64 → W.cell? ⟨g1, i, none⟩ = some (.int .i64 (S.p i))) := fun W h i hi => cell_later h (hc1 i hi)
          have HC2 : Hid (∀ W, Below w5.heap.size w5 W → ∀ i, i < 64 → W.cell? ⟨g2, i, none⟩ = some (.int .i64 (S.f i))) := fun W h i hi => cell_later h (hc2 i hi)
          clear h6 hr1 hr2 hr1' hr2' t7 hdj hc1 hc2 H1 hlt1 hlt2
          go_wp2_with fail
          go_loopw [15] (fun s15 wq => ∃ i : Nat, i ≤ 64 ∧ s15 = .int .i64 i ∧ Ct w (l.length + 1) wq c S1 ∧ Below w5.heap.size w5 wq) (fun s15 _ => 64 - (intOf s15).toNat)
          case atStart => exact ⟨0, by omega, rfl, h7, Below.refl _ _⟩
          case round =>
            clear h7
            obtain ⟨i, hi, rfl, h9, hb9⟩ := hrel
            by_cases hlt : i < 64
            · have hil : decide ((i : Int) < 64) = true := by simp; omega
              have c1 := HC1.out _ hb9 i hlt
              have c2 := HC2.out _ hb9 i hlt
              have hf1 := HM.out.1 i
              have hp1 := HM.out.2.1 i
              have hp2 := fun h => HM.out.2.2.1 h i
              have hu1 := HM.out.2.2.2 i
              have hfb := HF.out i
              obtain ⟨x, hx⟩ : ∃ x, x = S1.p i := ⟨_, rfl⟩
              obtain ⟨y, hy⟩ : ∃ x, x = S1.f i := ⟨_, rfl⟩
              obtain ⟨v, hv⟩ : ∃ x, x = S1.u i := ⟨_, rfl⟩
              obtain ⟨x0, hx0⟩ : ∃ x, x = S.p i := ⟨_, rfl⟩
              obtain ⟨y0, hy0⟩ : ∃ x, x = S.f i := ⟨_, rfl⟩
              have G1 : Hid (∀ W, Ct w (l.length + 1) W c S1 → Calls Try.prog 22 #[.pointer (some ⟨c, 0, none⟩), .int .i64 i] W fun e w' => e = .returned (.int .i64 x) ∧ Below W.heap.size W w') := fun W h => by rw [hx]; exact (peakT (i : Int) h).mono fun _ _ ⟨g1, _, g3⟩ => ⟨g1, g3⟩
              have G2 : Hid (∀ W, Ct w (l.length + 1) W c S1 → Calls Try.prog 21 #[.pointer (some ⟨c, 0, none⟩), .int .i64 i] W fun e w' => e = .returned (.int .i64 y) ∧ Below W.heap.size W w') := fun W h => by rw [hy]; exact (failT (i : Int) h).mono fun _ _ ⟨g1, _, g3⟩ => ⟨g1, g3⟩
              have G3 : Hid (∀ W, Ct w (l.length + 1) W c S1 → Calls Try.prog 19 #[.pointer (some ⟨c, 0, none⟩), .int .i64 i] W fun e w' => e = .returned (.int .i64 v) ∧ Below W.heap.size W w') := fun W h => by rw [hv]; exact (useT (i : Int) h).mono fun _ _ ⟨g1, _, g3⟩ => ⟨g1, g3⟩
              rw [← hx0] at c1
              rw [← hy0] at c2 hfb
              rw [← hy, ← hy0] at hf1
              rw [← hx, ← hx0] at hp1 hp2
              rw [← hx, ← hv] at hu1
              clear hx hy hv hx0 hy0 HC1 HC2 HF
              have zx : decide (x < x0) = false := by simp; omega
              have zv : decide (x < v) = false := by simp; omega
              have k1 := Up.cell c1
              have k2 := Up.cell c2
              have hne := Up.any wr
              by_cases e22 : E = 22
              · subst e22
                have hxx : x = x0 := hp2 (by decide)
                subst hxx
                have zq : (x != x) = false := by simp
                by_cases ea : (i : Int) = A
                · have za : ((i : Int) == A) = true := by simpa using ea
                  have hyy : y = y0 + 1 := by rw [hf1, if_pos ⟨rfl, ea⟩]
                  subst hyy
                  have zy : (y0 + 1 != y0 + 1) = false := by simp
                  have ew : IntKind.i64.wrap (y0 + 1) = y0 + 1 := by rw [IntKind.wrap_i64]; omega
                  clear ea
                  clear hf1 hp1 hp2 hu1 HM m5
                  go_wp2_with fail
                  refine wp_region_up (by kernel_rfl) (by kernel_rfl) ?_
                  repeat (go_big_quiet_step (first | (go_at_call 22; refine Up.call (G1.out _ (h9.up _))) | (go_at_call 21; refine Up.call (G2.out _ (h9.up _))) | (go_at_call 19; refine Up.call (G3.out _ (h9.up _)))))
                  refine wpQuiet_nil ?_
                  intro w17 hw'
                  obtain ⟨⟨_, hbw⟩, rfl⟩ := hw'
                  have h10 := h9.grow hbw
                  have hb10 := bel_trans hb9 hbw (Nat.le_refl _)
                  clear c1 c2 k1 k2 hne G1 G2 G3 h9 hbw hb9
                  go_wp2_with fail
                  exact ⟨⟨i + 1, by omega, by go_num, h10, hb10⟩, by simp [intOf]; omega⟩
                · have za : ((i : Int) == A) = false := by simpa using ea
                  have hyy : y = y0 := by rw [hf1, if_neg (fun h => ea h.2)]; omega
                  subst hyy
                  have zy : (y != y) = false := by simp
                  have ew : IntKind.i64.wrap (y + 0) = y := by rw [IntKind.wrap_i64]; omega
                  have ew2 : IntKind.i64.wrap y = y := by rw [IntKind.wrap_i64]; omega
                  clear ea
                  clear hf1 hp1 hp2 hu1 HM m5
                  go_wp2_with fail
                  refine wp_region_up (by kernel_rfl) (by kernel_rfl) ?_
                  repeat (go_big_quiet_step (first | (go_at_call 22; refine Up.call (G1.out _ (h9.up _))) | (go_at_call 21; refine Up.call (G2.out _ (h9.up _))) | (go_at_call 19; refine Up.call (G3.out _ (h9.up _)))))
                  refine wpQuiet_nil ?_
                  intro w17 hw'
                  obtain ⟨⟨_, hbw⟩, rfl⟩ := hw'
                  have h10 := h9.grow hbw
                  have hb10 := bel_trans hb9 hbw (Nat.le_refl _)
                  clear c1 c2 k1 k2 hne G1 G2 G3 h9 hbw hb9
                  go_wp2_with fail
                  exact ⟨⟨i + 1, by omega, by go_num, h10, hb10⟩, by simp [intOf]; omega⟩
              · have ze : (E == 22) = false := by simpa using e22
                have hyy : y = y0 := by rw [hf1, if_neg (fun h => e22 h.1)]; omega
                subst hyy
                have zy : (y != y) = false := by simp
                have ew : IntKind.i64.wrap (y + 0) = y := by rw [IntKind.wrap_i64]; omega
                have ew2 : IntKind.i64.wrap y = y := by rw [IntKind.wrap_i64]; omega
                by_cases e0 : E = 0
                · subst e0
                  clear e22
                  clear hf1 hp1 hp2 hu1 HM m5
                  go_wp2_with fail
                  refine wp_region_up (by kernel_rfl) (by kernel_rfl) ?_
                  repeat (go_big_quiet_step (first | (go_at_call 22; refine Up.call (G1.out _ (h9.up _))) | (go_at_call 21; refine Up.call (G2.out _ (h9.up _))) | (go_at_call 19; refine Up.call (G3.out _ (h9.up _)))))
                  refine wpQuiet_nil ?_
                  intro w17 hw'
                  obtain ⟨⟨_, hbw⟩, rfl⟩ := hw'
                  have h10 := h9.grow hbw
                  have hb10 := bel_trans hb9 hbw (Nat.le_refl _)
                  clear c1 c2 k1 k2 hne G1 G2 G3 h9 hbw hb9
                  go_wp2_with fail
                  exact ⟨⟨i + 1, by omega, by go_num, h10, hb10⟩, by simp [intOf]; omega⟩
                · have z0 : (E != 0) = true := by simpa using e0
                  have hxx : x = x0 := hp2 e0
                  subst hxx
                  have zq : (x != x) = false := by simp
                  clear e22 e0
                  clear hf1 hp1 hp2 hu1 HM m5
                  go_wp2_with fail
                  refine wp_region_up (by kernel_rfl) (by kernel_rfl) ?_
                  repeat (go_big_quiet_step (first | (go_at_call 22; refine Up.call (G1.out _ (h9.up _))) | (go_at_call 21; refine Up.call (G2.out _ (h9.up _))) | (go_at_call 19; refine Up.call (G3.out _ (h9.up _)))))
                  refine wpQuiet_nil ?_
                  intro w17 hw'
                  obtain ⟨⟨_, hbw⟩, rfl⟩ := hw'
                  have h10 := h9.grow hbw
                  have hb10 := bel_trans hb9 hbw (Nat.le_refl _)
                  clear c1 c2 k1 k2 hne G1 G2 G3 h9 hbw hb9
                  go_wp2_with fail
                  exact ⟨⟨i + 1, by omega, by go_num, h10, hb10⟩, by simp [intOf]; omega⟩
            · obtain rfl : i = 64 := by omega
              have hil : decide (((64 : Nat) : Int) < 64) = false := by simp
              clear HC1 HC2 HF HM
              go_wp2_with fail
              go_ret
              exact ⟨rfl, h9.bel⟩

theorem peaks_walk (a : Option Addr) (cap : Nat) (l : List Ac) (q : Option Addr) (cap' : Nat) (L : List Int) (n : Int) (w : World) (hc : ActsAt w a l) (hI : Ints w q L) :
    Calls Try.prog 6 #[.slice a l.length cap, .slice q L.length cap', .int .i64 n] w fun e w' => e = .returned (.bool true) ∧ Below w.heap.size w w' := by
  cases hov : ov l with
  | true => exact peaks_out a cap l q cap' L n w hc (Or.inl hov)
  | false =>
    by_cases h : 80 < L.length
    · exact peaks_out a cap l q cap' L n w hc (Or.inr ⟨hov, h⟩)
    · exact peaks_in a cap l q cap' L n w hc hI hov (by omega)
end Go.Proofs.Ytpageadhmgoddaa
