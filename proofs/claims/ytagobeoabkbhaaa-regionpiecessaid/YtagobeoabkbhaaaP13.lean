/-
  The contract of the document's Add.
-/
import Derived.Test.YtagobeoabkbhaaaP12
namespace Go.Proofs.Ytagobeoabkbhaaa
open Go.RowKit

/-- What is laid behind the first j of them: x stands ahead of number m. -/
def laid (L : List Rg) (x : Rg) (m j : Nat) : List Rg := if m < j then L.take m ++ x :: (L.take j).drop m else L.take j
theorem laid_zero (L : List Rg) (x : Rg) (m : Nat) : laid L x m 0 = [] := by simp [laid]
theorem laid_low (L : List Rg) (x : Rg) {m j : Nat} (hj : j < L.length) (h : j < m) : laid L x m (j + 1) = laid L x m j ++ [L[j]] := by
  unfold laid
  rw [if_neg (by omega), if_neg (by omega), List.take_append_getElem hj]
theorem laid_at (L : List Rg) (x : Rg) {m : Nat} (hj : m < L.length) : laid L x m (m + 1) = (laid L x m m ++ [x]) ++ [L[m]] := by
  unfold laid
  rw [if_pos (by omega), if_neg (by omega), ← List.take_append_getElem hj, List.drop_append_of_le_length (by simp; omega)]
  have : (L.take m).drop m = [] := by apply List.drop_eq_nil_of_le; simp; omega
  rw [this]
  simp
theorem laid_high (L : List Rg) (x : Rg) {m j : Nat} (hj : j < L.length) (h : m < j) : laid L x m (j + 1) = laid L x m j ++ [L[j]] := by
  unfold laid
  rw [if_pos (by omega), if_pos h, ← List.take_append_getElem hj, List.drop_append_of_le_length (by simp; omega)]
  simp
theorem laid_len (L : List Rg) (x : Rg) (m j : Nat) : (laid L x m j).length ≤ L.length + 1 := by
  unfold laid
  split
  · simp; omega
  · simp; omega
theorem laid_end (L : List Rg) (x : Rg) {m : Nat} (h : m < L.length) : laid L x m L.length = L.take m ++ x :: L.drop m := by
  unfold laid
  rw [if_pos h, List.take_length]
theorem laid_none (L : List Rg) (x : Rg) : laid L x L.length L.length = L := by
  unfold laid
  rw [if_neg (by omega), List.take_length]

theorem Regs.cells {w : World} {b off cap : Nat} {L : List Rg} (h : Regs w (some ⟨b, off, none⟩) cap L) {j : Nat} (hj : j < L.length) :
    w.cell? ⟨b, off + j * 6, none⟩ = some (.int .i64 L[j].f) ∧ w.cell? ⟨b, off + j * 6 + 1, none⟩ = some (.int .i64 L[j].t) ∧ w.cell? ⟨b, off + j * 6 + 2, none⟩ = some (.int .i64 L[j].k) ∧ w.cell? ⟨b, off + j * 6 + 3, none⟩ = some (.int .i64 L[j].fi) ∧ w.cell? ⟨b, off + j * 6 + 4, none⟩ = some (.int .i64 L[j].ix) ∧ w.cell? ⟨b, off + j * 6 + 5, none⟩ = some (.bool L[j].wr) := by
  obtain ⟨b', off', e, h1⟩ := h.get hj
  injection e with e
  injection e with e1 e2
  subst e1
  subst e2
  exact h1
/-- Behind an append that may have turned the row of its own alone. -/
theorem mid {w w5 w51 : World} {o o1 : Option Nat} {b off cap : Nat} {L N1 : List Rg} {x : Rg} {a1 : Option Addr} {c1 : Nat} {ob : Obj} (hrow : RowAt w5 w.heap.size 25 (rc x)) (hB : Below w.heap.size w w5) (hsz : w.heap.size + 1 ≤ w5.heap.size)
    (hne : o ≠ some w.heap.size) (hlo : ∀ k, o = some k → w.heap.size ≤ k) (hg : (w5.alloc ob).grownBy w51 o) (hoo : o1 = o ∨ ∃ g, o1 = some g ∧ (w5.alloc ob).heap.size ≤ g) (hown : OwnL w51 (w.heap.size + 1) o1 a1 c1 N1) (hr0 : Regs w (some ⟨b, off, none⟩) cap L) :
    Regs w51 (some ⟨b, off, none⟩) cap L ∧ RowAt w51 w.heap.size 25 (rc x) ∧ Below w.heap.size w w51 ∧ o1 ≠ some w.heap.size ∧ w.heap.size + 1 ≤ w51.heap.size ∧ ∀ k, o1 = some k → w.heap.size ≤ k := by
  have hBn := grown_below hg (bel_trans hB (below_alloc w5 ob)) hlo
  have hsa := (below_alloc w5 ob).size
  exact ⟨hr0.later hBn, grown_row hg (hrow.later (below_alloc _ _)) hne, hBn, own_apart hoo (by omega) hne, Nat.le_trans hsz (Nat.le_trans hsa hg.size), fun k hk => by have := (hown.lo k hk).1; omega⟩

set_option maxHeartbeats 4000000 in
theorem radd (a : Option Addr) (cap : Nat) (L : List Rg) (x : Rg) (w : World) (h : Regs w a cap L) (hL : L.length ≤ 1000) :
    Calls Try.prog 12 #[.slice a L.length cap, rv x] w (AddPost w L x) := by
  have HR1 : Hid (∀ w, Regs w a cap L → Calls Try.prog 16 #[.slice a L.length cap] w fun e w' => e = .returned (.bool (rt 0 L)) ∧ Below w.heap.size w w') := fun w h => rright a cap L w h (by omega)
  have HV1 : Hid (∀ w, Calls Try.prog 18 #[rv x] w fun e w' => e = .returned (.bool (vd x)) ∧ Below w.heap.size w w') := fun w => rvalid x w
  show Calls Try.prog 12 #[.slice a L.length cap, .agg #[.int .i64 x.f, .int .i64 x.t, .int .i64 x.k, .int .i64 x.fi, .int .i64 x.ix, .bool x.wr]] w (AddPost w L x)
  obtain ⟨w0, hw0, hr0, hB0, hb0⟩ := boxOn w w x (Below.refl _ _)
  cases hq : rt 0 L with
  | false =>
    obtain ⟨HF1, HF2⟩ := addR_arg (L := L) (x := x) (by simp [addArg, hq])
    have HF : Hid (addR L x = [] ∧ addE L x = 1) := ⟨HF1, HF2⟩
    rw [hq] at HR1
    clear hq HF1 HF2
    go_enter Try.func12, Try.ntmps12
    go_wp2_with fail
    rw [← hw0]
    refine (HR1.out _ (h.later hB0)).mono ?_
    rintro e w1 ⟨rfl, hb1⟩
    go_wp2
    go_ret2
    exact AddPost.none HF.out.1 HF.out.2 (bel_trans hB0 hb1)
  | true =>
    have HR : Hid (RL L) := (rt_iff L).1 hq
    rw [hq] at HR1
    cases hvq : vd x with
    | false =>
      obtain ⟨HF1, HF2⟩ := addR_arg (L := L) (x := x) (by simp [addArg, hvq])
      have HF : Hid (addR L x = [] ∧ addE L x = 1) := ⟨HF1, HF2⟩
      rw [hvq] at HV1
      clear hq hvq HF1 HF2
      go_enter Try.func12, Try.ntmps12
      go_wp2_with fail
      rw [← hw0]
      clear hw0
      refine (HR1.out _ (h.later hB0)).mono ?_
      rintro e w1 ⟨rfl, hb1⟩
      have hr1 := hr0.later hb1
      have hB1 := bel_trans hB0 hb1
      obtain ⟨k0, k1, k2, k3, k4, k5⟩ := hr1.six
      go_wp2_with fail
      refine (HV1.out _).mono ?_
      rintro e w2 ⟨rfl, hb2⟩
      have hB2 := bel_trans hB1 hb2
      go_wp2
      go_ret2
      exact AddPost.none HF.out.1 HF.out.2 hB2
    | true =>
      have HVd : Hid (Vd x) := (vd_iff x).1 hvq
      rw [hvq] at HV1
      by_cases h64 : 64 ≤ L.length
      · obtain ⟨HF1, HF2⟩ := addR_arg (L := L) (x := x) (by simp [addArg]; omega)
        have HF : Hid (addR L x = [] ∧ addE L x = 1) := ⟨HF1, HF2⟩
        clear hq hvq HF1 HF2
        have q64 : decide (64 ≤ L.length) = true := by simp; omega
        go_enter Try.func12, Try.ntmps12
        go_wp2_with fail
        rw [← hw0]
        clear hw0
        refine (HR1.out _ (h.later hB0)).mono ?_
        rintro e w1 ⟨rfl, hb1⟩
        have hr1 := hr0.later hb1
        have hB1 := bel_trans hB0 hb1
        obtain ⟨k0, k1, k2, k3, k4, k5⟩ := hr1.six
        go_wp2_with fail
        refine (HV1.out _).mono ?_
        rintro e w2 ⟨rfl, hb2⟩
        have hB2 := bel_trans hB1 hb2
        go_wp2
        go_ret2
        exact AddPost.none HF.out.1 HF.out.2 hB2
      · have h64' : L.length < 64 := by omega
        have hble := bh_le L x.f
        have HOK : Hid (bz L x = false → addR L x = L.take (bh L x.f) ++ x :: L.drop (bh L x.f) ∧ addE L x = 0) := fun hb => addR_ok HR.out HVd.out h64' hb
        have HBUSY : Hid (bz L x = true → addR L x = [] ∧ addE L x = 4) := fun hb => addR_busy HR.out HVd.out h64' hb
        have HLOW : Hid (∀ j (hj : j < L.length), j < bh L x.f → L[j].f < x.t ∧ ¬ x.f < L[j].t ∧ ¬ x.f < L[j].f) := by
          intro j hj hjm
          have h1 := bh_lt L x.f j hj hjm
          have h2 := (HR.out.vd hj).2.1
          have h3 := HVd.out.2.1
          exact ⟨by omega, by omega, by omega⟩
        have HAT : Hid (∀ (hj : bh L x.f < L.length), x.f < L[bh L x.f].t ∧ bz L x = decide (L[bh L x.f].f < x.t) ∧ (bz L x = false → x.f < L[bh L x.f].f)) := by
          intro hj
          have h1 := bh_at L x.f hj
          have h3 := HVd.out.2.1
          have h4 : bz L x = decide (L[bh L x.f].f < x.t) := by unfold bz; rw [List.getElem?_eq_getElem hj]
          refine ⟨h1, h4, fun hb => ?_⟩
          rw [hb] at h4
          simp at h4
          omega
        have HHIGH : Hid (bz L x = false → ∀ j (hj : j < L.length), bh L x.f < j → ¬ L[j].f < x.t) := by
          intro hb j hj hmj
          have := bz_drop HR.out hb j hj (by omega)
          omega
        have HBZ2 : Hid (bh L x.f = L.length → bz L x = false) := by intro hb; unfold bz; rw [List.getElem?_eq_none (by omega)]
        obtain ⟨m, hm⟩ : ∃ m, m = bh L x.f := ⟨_, rfl⟩
        rw [← hm] at hble HBZ2 HOK HLOW HHIGH
        have HAT2 : Hid (∀ (hj : m < L.length), x.f < L[m].t ∧ bz L x = decide (L[m].f < x.t) ∧ (bz L x = false → x.f < L[m].f)) := by subst hm; exact HAT
        clear hm hq hvq HAT
        have q64 : decide (64 ≤ L.length) = false := by simp; omega
        go_enter Try.func12, Try.ntmps12
        go_wp2_with fail
        rw [← hw0]
        clear hw0
        refine (HR1.out _ (h.later hB0)).mono ?_
        rintro e w1 ⟨rfl, hb1⟩
        have hr1 := hr0.later hb1
        have hB1 := bel_trans hB0 hb1
        clear hr0 hB0 hb1 hb0
        obtain ⟨k0, k1, k2, k3, k4, k5⟩ := hr1.six
        go_wp2_with fail
        refine (HV1.out _).mono ?_
        rintro e w2 ⟨rfl, hb2⟩
        have hr2 := hr1.later hb2
        have hB2 := bel_trans hB1 hb2
        clear hr1 hB1 hb2 k0 k1 k2 k3 k4 k5 HR1 HV1 HR
        go_wp2
        go_loopw [6, 7, 8] (fun s6 s7 s8 wr => ∃ (j : Nat) (a' : Option Addr) (c' : Nat) (N : List Rg) (o : Option Nat) (pt : Bool), j ≤ L.length ∧ s8 = .int .i64 j ∧ s7 = .bool pt ∧ pt = decide (m < j) ∧ (m < j → bz L x = false) ∧ s6 = .slice a' N.length c' ∧ N = laid L x m j ∧ OwnL wr (w.heap.size + 1) o a' c' N ∧ RowAt wr w.heap.size 25 (rc x) ∧ Below w.heap.size w wr ∧ w.heap.size + 1 ≤ wr.heap.size) (fun _ _ s8 _ => L.length - (intOf s8).toNat)
        case atStart => exact ⟨0, _, 0, [], none, false, by omega, rfl, rfl, by simp, fun hh => by omega, rfl, (laid_zero L x m).symm, OwnL.nil _ _ _, hr2, hB2, hr2.lt⟩
        case round =>
          obtain ⟨j, a', c', N, o, pt, hj, rfl, rfl, hpt, hbf, rfl, hN, hown, hrow, hb, hsz⟩ := hrel
          have hr := h.later hb
          clear hr2 hB2
          by_cases hjl : j < L.length
          · have hjd : decide (j < L.length) = true := by simp; omega
            obtain ⟨b, off, rfl, c0, c1, c2, c3, c4, c5⟩ := hr.get hjl
            obtain ⟨k0, k1, k2, k3, k4, k5⟩ := hrow.six
            have HLN : Hid (N.length ≤ L.length + 1) := by show _ ≤ _; rw [hN]; exact laid_len L x m j
            have hne : o ≠ some w.heap.size := fun e => by have := (hown.lo _ e).1; omega
            have hlo : Hid (∀ k, o = some k → w.heap.size ≤ k) := fun k hk => by have := (hown.lo k hk).1; omega
            obtain ⟨y, hy⟩ : ∃ y, y = L[j] := ⟨_, rfl⟩
            have HY : Hid (y = L[j]) := hy
            rw [← hy] at c0 c1 c2 c3 c4 c5
            rcases Nat.lt_trichotomy j m with hjm | hjm | hjm
            · have hs := laid_low L x hjl hjm
              have hlow := HLOW.out j hjl hjm
              rw [← hy] at hs hlow
              rw [← hN] at hs
              have HS : Hid (laid L x m (j + 1) = N ++ [y]) := hs
              have hpf : pt = false := by rw [hpt]; simp; omega
              subst hpf
              clear hpt hs hy hN hbf HLOW HAT2 HHIGH HBZ2 HOK HBUSY HVd
              have q1 : decide (y.f < x.t) = true := by simp; omega
              have q2 : decide (x.f < y.t) = false := by simp; omega
              have q3 : decide (x.f < y.f) = false := by simp; omega
              clear hlow
              go_wp2
              go_quiet (fail)
              obtain ⟨w4, hw4⟩ : ∃ w4, w4 = wr.drewN nq := ⟨_, rfl⟩
              have hown4 : OwnL w4 (w.heap.size + 1) o a' c' N := by rw [hw4]; exact hown
              have hrow4 : RowAt w4 w.heap.size 25 (rc x) := by rw [hw4]; exact hrow.drewN nq
              have hB4 : Below w.heap.size w w4 := by rw [hw4]; exact below_drawn hb nq
              have hr4 : Regs w4 (some ⟨b, off, none⟩) cap L := by rw [hw4]; exact Regs.drewN hr nq
              have hsz4 : w.heap.size + 1 ≤ w4.heap.size := by rw [hw4]; exact hsz
              rw [← hw4]
              clear hw4 k0 k1 k2 k3 k4 k5 c0 c1 c2 c3 c4 c5 hown hrow hb hr hsz
              obtain ⟨k0, k1, k2, k3, k4, k5⟩ := hrow4.six
              have hc4 := hr4.cells hjl
              rw [← HY.out] at hc4
              obtain ⟨c0, c1, c2, c3, c4, c5⟩ := hc4
              go_wp2
              go_quiet (fail)
              obtain ⟨w5, hw5⟩ : ∃ w5, w5 = w4.drewN nq := ⟨_, rfl⟩
              have hown5 : OwnL w5 (w.heap.size + 1) o a' c' N := by rw [hw5]; exact hown4
              have hrow5 : RowAt w5 w.heap.size 25 (rc x) := by rw [hw5]; exact hrow4.drewN nq
              have hB5 : Below w.heap.size w w5 := by rw [hw5]; exact below_drawn hB4 nq
              have hr5 : Regs w5 (some ⟨b, off, none⟩) cap L := by rw [hw5]; exact Regs.drewN hr4 nq
              have hsz5 : w.heap.size + 1 ≤ w5.heap.size := by rw [hw5]; exact hsz4
              rw [← hw5]
              clear hw5 k0 k1 k2 k3 k4 k5 c0 c1 c2 c3 c4 c5 hown4 hrow4 hB4 hr4 hsz4
              obtain ⟨k0, k1, k2, k3, k4, k5⟩ := hrow5.six
              have hc5 := hr5.cells hjl
              rw [← HY.out] at hc5
              obtain ⟨c0, c1, c2, c3, c4, c5⟩ := hc5
              have HB6 := bel_trans hB5 (below_alloc w5 (.cells #[.int .i64 y.f, .int .i64 y.t, .int .i64 y.k, .int .i64 y.fi, .int .i64 y.ix, .bool y.wr] 25))
              have HB1 : Hid (N.length + ([y] : List Rg).length ≤ 1000000) := by have := HLN.out; show _ ≤ _; simp only [List.length_cons, List.length_nil]; omega
              go_wp2_with (at_builtin; refine wpList_append_regs rfl (.tmp 62) (.tmp 67) rfl (w.heap.size + 1) o a' c' N (some ⟨w5.heap.size, 0, none⟩) 1 1 [y] rfl (hown5.later (below_alloc _ _)) rfl rfl (one_regs (RowAt.new w5 #[.int .i64 y.f, .int .i64 y.t, .int .i64 y.k, .int .i64 y.fi, .int .i64 y.ix, .bool y.wr] 25)) HB1.out (Nat.le_trans hsz5 (below_alloc _ _).size) ?_; rintro o1 a1 c1 N1 w51 HN1 hown51 hg1 hoo1)
              have HF : Hid (N1 = laid L x m (j + 1)) := by show _ = _; rw [HN1.out, HS.out]
              exact ⟨⟨j + 1, a1, c1, N1, o1, false, by omega, by go_num, rfl, by simp; omega, fun hh => absurd hh (by omega), rfl, HF.out, hown51, grown_row hg1 (hrow5.later (below_alloc _ _)) hne, grown_below hg1 HB6 hlo.out, Nat.le_trans hsz5 (Nat.le_trans (below_alloc _ _).size hg1.size)⟩, by simp [intOf]; omega⟩
            · subst hjm
              have hat := HAT2.out hjl
              have hs := laid_at L x hjl
              rw [← hy] at hs hat
              rw [← hN] at hs
              have HS : Hid (laid L x j (j + 1) = (N ++ [x]) ++ [y]) := hs
              have hpf : pt = false := by rw [hpt]; simp
              subst hpf
              obtain ⟨hat1, hat2, hat3⟩ := hat
              have q2 : decide (x.f < y.t) = true := by simp; omega
              by_cases hbz : y.f < x.t
              · have q1 : decide (y.f < x.t) = true := by simp; omega
                rw [q1] at hat2
                have HF : Hid (addR L x = [] ∧ addE L x = 4) := HBUSY.out hat2
                clear hpt hs hy hN hbf HLOW HAT2 HHIGH HBZ2 HOK HBUSY HVd hat1 hat2 hat3 HS
                go_wp2
                go_quiet (fail)
                go_wp2
                go_ret2
                exact AddPost.none HF.out.1 HF.out.2 (below_drawn hb _)
              · have q1 : decide (y.f < x.t) = false := by simp; omega
                rw [q1] at hat2
                have q3 : decide (x.f < y.f) = true := by have := hat3 hat2; simp; omega
                have HBZ := hat2
                clear hpt hs hy hN hbf HLOW HAT2 HHIGH HBZ2 HOK HBUSY HVd hat1 hat2 hat3
                go_wp2
                go_quiet (fail)
                obtain ⟨w4, hw4⟩ : ∃ w4, w4 = wr.drewN nq := ⟨_, rfl⟩
                have hown4 : OwnL w4 (w.heap.size + 1) o a' c' N := by rw [hw4]; exact hown
                have hrow4 : RowAt w4 w.heap.size 25 (rc x) := by rw [hw4]; exact hrow.drewN nq
                have hB4 : Below w.heap.size w w4 := by rw [hw4]; exact below_drawn hb nq
                have hr4 : Regs w4 (some ⟨b, off, none⟩) cap L := by rw [hw4]; exact Regs.drewN hr nq
                have hsz4 : w.heap.size + 1 ≤ w4.heap.size := by rw [hw4]; exact hsz
                rw [← hw4]
                clear hw4 k0 k1 k2 k3 k4 k5 c0 c1 c2 c3 c4 c5 hown hrow hb hr hsz
                obtain ⟨k0, k1, k2, k3, k4, k5⟩ := hrow4.six
                have hc4 := hr4.cells hjl
                rw [← HY.out] at hc4
                obtain ⟨c0, c1, c2, c3, c4, c5⟩ := hc4
                go_wp2
                go_quiet (fail)
                obtain ⟨w5, hw5⟩ : ∃ w5, w5 = w4.drewN nq := ⟨_, rfl⟩
                have hown5 : OwnL w5 (w.heap.size + 1) o a' c' N := by rw [hw5]; exact hown4
                have hrow5 : RowAt w5 w.heap.size 25 (rc x) := by rw [hw5]; exact hrow4.drewN nq
                have hB5 : Below w.heap.size w w5 := by rw [hw5]; exact below_drawn hB4 nq
                have hr5 : Regs w5 (some ⟨b, off, none⟩) cap L := by rw [hw5]; exact Regs.drewN hr4 nq
                have hsz5 : w.heap.size + 1 ≤ w5.heap.size := by rw [hw5]; exact hsz4
                rw [← hw5]
                clear hw5 k0 k1 k2 k3 k4 k5 c0 c1 c2 c3 c4 c5 hown4 hrow4 hB4 hr4 hsz4
                obtain ⟨k0, k1, k2, k3, k4, k5⟩ := hrow5.six
                have hc5 := hr5.cells hjl
                rw [← HY.out] at hc5
                obtain ⟨c0, c1, c2, c3, c4, c5⟩ := hc5
                have HB6 := bel_trans hB5 (below_alloc w5 (.cells #[.int .i64 x.f, .int .i64 x.t, .int .i64 x.k, .int .i64 x.fi, .int .i64 x.ix, .bool x.wr] 25))
                have HB1 : Hid (N.length + ([x] : List Rg).length ≤ 1000000) := by have := HLN.out; show _ ≤ _; simp only [List.length_cons, List.length_nil]; omega
                go_wp2_with (at_builtin; first | (refine wpList_append_regs rfl (.tmp 58) (.tmp 60) rfl (w.heap.size + 1) o a' c' N (some ⟨w5.heap.size, 0, none⟩) 1 1 [x] rfl (hown5.later (below_alloc _ _)) rfl rfl (one_regs (RowAt.new w5 #[.int .i64 x.f, .int .i64 x.t, .int .i64 x.k, .int .i64 x.fi, .int .i64 x.ix, .bool x.wr] 25)) HB1.out (Nat.le_trans hsz5 (below_alloc _ _).size) ?_; rintro o1 a1 d1 N1 w51 HN1 hown51 hg1 hoo1; obtain ⟨hr6, hrow6, HB7, hne6, hsz6, hlo6⟩ := mid hrow5 hB5 hsz5 hne hlo.out hg1 hoo1 hown51 h; clear c0 c1 c2 c3 c4 c5; have hc6 := hr6.cells hjl; rw [← HY.out] at hc6; obtain ⟨c0, c1, c2, c3, c4, c5⟩ := hc6; have HB9 := bel_trans HB7 (below_alloc w51 (.cells #[.int .i64 y.f, .int .i64 y.t, .int .i64 y.k, .int .i64 y.fi, .int .i64 y.ix, .bool y.wr] 25)); have HB2 : Hid (N1.length + ([y] : List Rg).length ≤ 1000000) := (by have := HLN.out; show _ ≤ _; rw [HN1.out]; simp only [List.length_append, List.length_cons, List.length_nil]; omega)) | (refine wpList_append_regs rfl (.tmp 62) (.tmp 67) rfl (w.heap.size + 1) o1 a1 d1 N1 (some ⟨w51.heap.size, 0, none⟩) 1 1 [y] rfl (hown51.later (below_alloc _ _)) rfl rfl (one_regs (RowAt.new w51 #[.int .i64 y.f, .int .i64 y.t, .int .i64 y.k, .int .i64 y.fi, .int .i64 y.ix, .bool y.wr] 25)) HB2.out (Nat.le_trans hsz6 (below_alloc _ _).size) ?_; rintro o2 a2 d2 N2 w52 HN2 hown52 hg2 hoo2))
                have HF : Hid (N2 = laid L x j (j + 1)) := by show _ = _; rw [HN2.out, HN1.out, HS.out]
                exact ⟨⟨j + 1, a2, d2, N2, o2, true, by omega, by go_num, rfl, by simp, fun _ => HBZ, rfl, HF.out, hown52, grown_row hg2 (hrow6.later (below_alloc _ _)) hne6, grown_below hg2 HB9 hlo6, Nat.le_trans hsz6 (Nat.le_trans (below_alloc _ _).size hg2.size)⟩, by simp [intOf]; omega⟩
            · have HBZ := hbf hjm
              have hs := laid_high L x hjl hjm
              have hhi := HHIGH.out HBZ j hjl hjm
              rw [← hy] at hs hhi
              rw [← hN] at hs
              have HS : Hid (laid L x m (j + 1) = N ++ [y]) := hs
              have hpf : pt = true := by rw [hpt]; simp; omega
              subst hpf
              have q1 : decide (y.f < x.t) = false := by simp; omega
              clear hpt hs hy hN hbf HLOW HAT2 HHIGH HBZ2 HOK HBUSY HVd hhi
              go_wp2
              go_quiet (fail)
              obtain ⟨w4, hw4⟩ : ∃ w4, w4 = wr.drewN nq := ⟨_, rfl⟩
              have hown4 : OwnL w4 (w.heap.size + 1) o a' c' N := by rw [hw4]; exact hown
              have hrow4 : RowAt w4 w.heap.size 25 (rc x) := by rw [hw4]; exact hrow.drewN nq
              have hB4 : Below w.heap.size w w4 := by rw [hw4]; exact below_drawn hb nq
              have hr4 : Regs w4 (some ⟨b, off, none⟩) cap L := by rw [hw4]; exact Regs.drewN hr nq
              have hsz4 : w.heap.size + 1 ≤ w4.heap.size := by rw [hw4]; exact hsz
              rw [← hw4]
              clear hw4 k0 k1 k2 k3 k4 k5 c0 c1 c2 c3 c4 c5 hown hrow hb hr hsz
              obtain ⟨k0, k1, k2, k3, k4, k5⟩ := hrow4.six
              have hc4 := hr4.cells hjl
              rw [← HY.out] at hc4
              obtain ⟨c0, c1, c2, c3, c4, c5⟩ := hc4
              go_wp2
              go_quiet (fail)
              obtain ⟨w5, hw5⟩ : ∃ w5, w5 = w4.drewN nq := ⟨_, rfl⟩
              have hown5 : OwnL w5 (w.heap.size + 1) o a' c' N := by rw [hw5]; exact hown4
              have hrow5 : RowAt w5 w.heap.size 25 (rc x) := by rw [hw5]; exact hrow4.drewN nq
              have hB5 : Below w.heap.size w w5 := by rw [hw5]; exact below_drawn hB4 nq
              have hr5 : Regs w5 (some ⟨b, off, none⟩) cap L := by rw [hw5]; exact Regs.drewN hr4 nq
              have hsz5 : w.heap.size + 1 ≤ w5.heap.size := by rw [hw5]; exact hsz4
              rw [← hw5]
              clear hw5 k0 k1 k2 k3 k4 k5 c0 c1 c2 c3 c4 c5 hown4 hrow4 hB4 hr4 hsz4
              obtain ⟨k0, k1, k2, k3, k4, k5⟩ := hrow5.six
              have hc5 := hr5.cells hjl
              rw [← HY.out] at hc5
              obtain ⟨c0, c1, c2, c3, c4, c5⟩ := hc5
              have HB6 := bel_trans hB5 (below_alloc w5 (.cells #[.int .i64 y.f, .int .i64 y.t, .int .i64 y.k, .int .i64 y.fi, .int .i64 y.ix, .bool y.wr] 25))
              have HB1 : Hid (N.length + ([y] : List Rg).length ≤ 1000000) := by have := HLN.out; show _ ≤ _; simp only [List.length_cons, List.length_nil]; omega
              go_wp2_with (at_builtin; refine wpList_append_regs rfl (.tmp 62) (.tmp 67) rfl (w.heap.size + 1) o a' c' N (some ⟨w5.heap.size, 0, none⟩) 1 1 [y] rfl (hown5.later (below_alloc _ _)) rfl rfl (one_regs (RowAt.new w5 #[.int .i64 y.f, .int .i64 y.t, .int .i64 y.k, .int .i64 y.fi, .int .i64 y.ix, .bool y.wr] 25)) HB1.out (Nat.le_trans hsz5 (below_alloc _ _).size) ?_; rintro o1 a1 c1 N1 w51 HN1 hown51 hg1 hoo1)
              have HF : Hid (N1 = laid L x m (j + 1)) := by show _ = _; rw [HN1.out, HS.out]
              exact ⟨⟨j + 1, a1, c1, N1, o1, true, by omega, by go_num, rfl, by simp; omega, fun _ => HBZ, rfl, HF.out, hown51, grown_row hg1 (hrow5.later (below_alloc _ _)) hne, grown_below hg1 HB6 hlo.out, Nat.le_trans hsz5 (Nat.le_trans (below_alloc _ _).size hg1.size)⟩, by simp [intOf]; omega⟩
          · have hjd : decide (j < L.length) = false := by simp; omega
            obtain rfl : j = L.length := by omega
            by_cases hml : m < L.length
            · have hpf : pt = true := by rw [hpt]; simp; omega
              subst hpf
              have HF : Hid (N = addR L x ∧ addE L x = 0) := by
                have h0 := HOK.out (hbf hml)
                exact ⟨by rw [hN, h0.1, laid_end L x hml], h0.2⟩
              clear hpt hN hbf HLOW HAT2 HHIGH HBZ2 HOK HBUSY HVd hr
              go_wp2
              go_ret2
              exact ⟨a', c', N, HF.out.1, by rw [HF.out.2]; rfl, hown.regs, hb⟩
            · obtain rfl : m = L.length := by omega
              have hpf : pt = false := by rw [hpt]; simp
              subst hpf
              have HF : Hid (N ++ [x] = addR L x ∧ addE L x = 0) := by
                have h0 := HOK.out (HBZ2.out rfl)
                refine ⟨?_, h0.2⟩
                rw [hN, h0.1, laid_none, List.take_length, List.drop_length]
              have HLN : Hid (N.length ≤ L.length + 1) := by show _ ≤ _; rw [hN]; exact laid_len L x _ _
              have hlo : Hid (∀ k, o = some k → w.heap.size ≤ k) := fun k hk => by have := (hown.lo k hk).1; omega
              clear hpt hN hbf HLOW HAT2 HHIGH HBZ2 HOK HBUSY HVd hr
              obtain ⟨k0, k1, k2, k3, k4, k5⟩ := hrow.six
              have HB6 := bel_trans hb (below_alloc wr (.cells #[.int .i64 x.f, .int .i64 x.t, .int .i64 x.k, .int .i64 x.fi, .int .i64 x.ix, .bool x.wr] 25))
              have HB1 : Hid (N.length + ([x] : List Rg).length ≤ 1000000) := by have := HLN.out; show _ ≤ _; simp only [List.length_cons, List.length_nil]; omega
              go_wp2_with (at_builtin; refine wpList_append_regs rfl (.tmp 71) (.tmp 73) rfl (w.heap.size + 1) o a' c' N (some ⟨wr.heap.size, 0, none⟩) 1 1 [x] rfl (hown.later (below_alloc _ _)) rfl rfl (one_regs (RowAt.new wr #[.int .i64 x.f, .int .i64 x.t, .int .i64 x.k, .int .i64 x.fi, .int .i64 x.ix, .bool x.wr] 25)) HB1.out (Nat.le_trans hsz (below_alloc _ _).size) ?_; rintro o1 a1 c1 N1 w51 HN1 hown51 hg1 hoo1)
              go_ret2
              exact ⟨a1, c1, N1, by rw [HN1.out, HF.out.1], by rw [HF.out.2]; rfl, hown51.regs, grown_below hg1 HB6 hlo.out⟩
end Go.Proofs.Ytagobeoabkbhaaa
