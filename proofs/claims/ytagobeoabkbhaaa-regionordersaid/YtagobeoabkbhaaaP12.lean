/-
  The contract of Add.
-/
import Derived.Test.YtagobeoabkbhaaaP11
namespace Go.Proofs.Ytagobeoabkbhaaa
open Go.RowKit

theorem grown_later {w w' : World} (h : w.grownBy w' none) : Below w.heap.size w w' := ⟨h.os, h.tape, h.output, h.size, fun k hk => h.block k hk (by simp)⟩
theorem Regs.emp {w : World} {a : Option Addr} {c : Nat} (h : a = Option.none → c = 0) : Regs w a c [] := ⟨Nat.zero_le _, h, fun j hj => by simp at hj⟩
def AddPost (w : World) (L : List Rg) (x : Rg) (e : Ending) (w' : World) : Prop := ∃ a' c' N, N = addR L x ∧ e = .returned (.tuple #[.slice a' N.length c', .int .i64 (addE L x)]) ∧ Regs w' a' c' N ∧ Below w.heap.size w w'
theorem AddPost.none {w w' : World} {L : List Rg} {x : Rg} {E : Int} (h1 : addR L x = []) (h2 : addE L x = E) (hb : Below w.heap.size w w') : AddPost w L x (.returned (.tuple #[.slice none 0 0, .int .i64 E])) w' :=
  ⟨Option.none, 0, [], h1.symm, by rw [h2]; rfl, ⟨Nat.le_refl _, fun _ => rfl, fun j hj => by simp at hj⟩, hb⟩

set_option maxHeartbeats 4000000 in
theorem padd (a : Option Addr) (cap : Nat) (L : List Rg) (x : Rg) (w : World) (h : Regs w a cap L) (hL : L.length ≤ 1000) :
    Calls Try.prog 11 #[.slice a L.length cap, rv x] w (AddPost w L x) := by
  have HR1 : Hid (∀ w, Regs w a cap L → Calls Try.prog 19 #[.slice a L.length cap] w fun e w' => e = .returned (.bool (rt 0 L)) ∧ Below w.heap.size w w') := fun w h => pright a cap L w h (by omega)
  have HV1 : Hid (∀ w, Calls Try.prog 17 #[rv x] w fun e w' => e = .returned (.bool (vd x)) ∧ Below w.heap.size w w') := fun w => pvalid x w
  show Calls Try.prog 11 #[.slice a L.length cap, .agg #[.int .i64 x.f, .int .i64 x.t, .int .i64 x.k, .int .i64 x.fi, .int .i64 x.ix, .bool x.wr]] w (AddPost w L x)
  obtain ⟨w0, hw0, hr0, hB0, hb0⟩ := boxOn w w x (Below.refl _ _)
  cases hq : rt 0 L with
  | false =>
    obtain ⟨HF1, HF2⟩ := addR_arg (L := L) (x := x) (by simp [addArg, hq])
    have HF : Hid (addR L x = [] ∧ addE L x = 1) := ⟨HF1, HF2⟩
    rw [hq] at HR1
    clear hq HF1 HF2
    go_enter Try.func11, Try.ntmps11
    go_wp2_with fail
    rw [← hw0]
    refine (HR1.out _ (h.later hB0)).mono ?_
    rintro e w1 ⟨rfl, hb1⟩
    go_wp2
    go_ret2
    exact AddPost.none HF.out.1 HF.out.2 (bel_trans hB0 hb1)
  | true =>
    have HR : Hid (RL L) := (rt_iff L).1 hq
    rw [hq] at HR1
    cases hvq : vd x with
    | false =>
      obtain ⟨HF1, HF2⟩ := addR_arg (L := L) (x := x) (by simp [addArg, hvq])
      have HF : Hid (addR L x = [] ∧ addE L x = 1) := ⟨HF1, HF2⟩
      rw [hvq] at HV1
      clear hq hvq HF1 HF2
      go_enter Try.func11, Try.ntmps11
      go_wp2_with fail
      rw [← hw0]
      clear hw0
      refine (HR1.out _ (h.later hB0)).mono ?_
      rintro e w1 ⟨rfl, hb1⟩
      have hr1 := hr0.later hb1
      have hB1 := bel_trans hB0 hb1
      obtain ⟨k0, k1, k2, k3, k4, k5⟩ := hr1.six
      go_wp2_with fail
      refine (HV1.out _).mono ?_
      rintro e w2 ⟨rfl, hb2⟩
      have hB2 := bel_trans hB1 hb2
      go_wp2
      go_ret2
      exact AddPost.none HF.out.1 HF.out.2 hB2
    | true =>
      have HVd : Hid (Vd x) := (vd_iff x).1 hvq
      rw [hvq] at HV1
      by_cases h64 : 64 ≤ L.length
      · obtain ⟨HF1, HF2⟩ := addR_arg (L := L) (x := x) (by simp [addArg]; omega)
        have HF : Hid (addR L x = [] ∧ addE L x = 1) := ⟨HF1, HF2⟩
        clear hq hvq HF1 HF2
        have q64 : decide (64 ≤ L.length) = true := by simp; omega
        go_enter Try.func11, Try.ntmps11
        go_wp2_with fail
        rw [← hw0]
        clear hw0
        refine (HR1.out _ (h.later hB0)).mono ?_
        rintro e w1 ⟨rfl, hb1⟩
        have hr1 := hr0.later hb1
        have hB1 := bel_trans hB0 hb1
        obtain ⟨k0, k1, k2, k3, k4, k5⟩ := hr1.six
        go_wp2_with fail
        refine (HV1.out _).mono ?_
        rintro e w2 ⟨rfl, hb2⟩
        have hB2 := bel_trans hB1 hb2
        go_wp2
        go_ret2
        exact AddPost.none HF.out.1 HF.out.2 hB2
      · have h64' : L.length < 64 := by omega
        have HB : Hid (∀ w, Regs w a cap L → Calls Try.prog 26 #[.slice a L.length cap, .int .i64 x.f] w fun e w' => e = .returned (.int .i64 (bh L x.f)) ∧ Below w.heap.size w w') := fun w h => pbehind a cap L x.f w h hL HR.out
        have hble := bh_le L x.f
        have HBZ : Hid (∀ hb : bh L x.f < L.length, bz L x = decide (L[bh L x.f].f < x.t)) := by intro hb; unfold bz; rw [List.getElem?_eq_getElem hb]
        have HBZ2 : Hid (bh L x.f = L.length → bz L x = false) := by intro hb; unfold bz; rw [List.getElem?_eq_none (by omega)]
        have HOK : Hid (bz L x = false → addR L x = L.take (bh L x.f) ++ x :: L.drop (bh L x.f) ∧ addE L x = 0) := fun hb => addR_ok HR.out HVd.out h64' hb
        have HBUSY : Hid (bz L x = true → addR L x = [] ∧ addE L x = 4) := fun hb => addR_busy HR.out HVd.out h64' hb
        obtain ⟨m, hm⟩ : ∃ m, m = bh L x.f := ⟨_, rfl⟩
        rw [← hm] at HB hble HBZ HBZ2 HOK
        clear hm hq hvq
        have q64 : decide (64 ≤ L.length) = false := by simp; omega
        go_enter Try.func11, Try.ntmps11
        go_wp2_with fail
        rw [← hw0]
        clear hw0
        refine (HR1.out _ (h.later hB0)).mono ?_
        rintro e w1 ⟨rfl, hb1⟩
        have hr1 := hr0.later hb1
        have hB1 := bel_trans hB0 hb1
        clear hr0 hB0 hb1 hb0
        obtain ⟨k0, k1, k2, k3, k4, k5⟩ := hr1.six
        go_wp2_with fail
        refine (HV1.out _).mono ?_
        rintro e w2 ⟨rfl, hb2⟩
        have hr2 := hr1.later hb2
        have hB2 := bel_trans hB1 hb2
        clear hr1 hB1 hb2 k0 k1 k2 k3 k4 k5
        obtain ⟨k0, k1, k2, k3, k4, k5⟩ := hr2.six
        go_wp2_with fail
        refine (HB.out _ (h.later hB2)).mono ?_
        rintro e w3 ⟨rfl, hb3⟩
        have hr3 := hr2.later hb3
        have hB3 := bel_trans hB2 hb3
        have hreg := h.later hB3
        clear hr2 hB2 hb3 k0 k1 k2 k3 k4 k5 HR1 HV1 HB h
        obtain ⟨k0, k1, k2, k3, k4, k5⟩ := hr3.six
        by_cases hml : m < L.length
        · have qm : decide (m < L.length) = true := by simp; omega
          obtain ⟨b, off, rfl, c0, -⟩ := hreg.get hml
          have hz := HBZ.out hml
          obtain ⟨F, hF⟩ : ∃ F, F = L[m].f := ⟨_, rfl⟩
          rw [← hF] at c0 hz
          clear hF
          by_cases hbz : F < x.t
          · have qF : decide (F < x.t) = true := by simp; omega
            rw [qF] at hz
            have HF : Hid (addR L x = [] ∧ addE L x = 4) := HBUSY.out hz
            clear hz HBUSY HOK HBZ HBZ2
            go_wp2
            go_quiet (fail)
            go_wp2
            go_ret2
            exact AddPost.none HF.out.1 HF.out.2 (below_drawn hB3 _)
          · have qF : decide (F < x.t) = false := by simp; omega
            rw [qF] at hz
            have HF : Hid (addR L x = L.take m ++ x :: L.drop m ∧ addE L x = 0) := HOK.out hz
            clear hz HBUSY HOK HBZ HBZ2
            go_wp2
            go_quiet (fail)
            go_wp2
            obtain ⟨w4, hw4⟩ : ∃ w4, w4 = w3.drewN nq := ⟨_, rfl⟩
            have hr4 : RowAt w4 w.heap.size 25 (rc x) := by rw [hw4]; exact hr3.drewN nq
            have hB4 : Below w.heap.size w w4 := by rw [hw4]; exact below_drawn hB3 nq
            have hreg4 := Regs.drewN hreg nq
            rw [← hw4] at hreg4 ⊢
            clear hw4 k0 k1 k2 k3 k4 k5 hr3 hB3 hreg
            obtain ⟨k0, k1, k2, k3, k4, k5⟩ := hr4.six
            have HB5 : Hid (Below w.heap.size w (w4.drew.alloc (.cells #[.int .i64 x.f, .int .i64 x.t, .int .i64 x.k, .int .i64 x.fi, .int .i64 x.ix, .bool x.wr] 25))) := bel_trans (below_drawn hB4 1) (below_alloc w4.drew _)
            have HA : Hid (∀ o, Regs (w4.drew.alloc o) (some ⟨b, off, none⟩) (L.take m).length (L.take m)) := fun o => (Regs.take (Regs.drewN hreg4 1) hble).later (below_alloc w4.drew o)
            have HD : Hid (∀ o, Regs (w4.drew.alloc o) (some ⟨b, off + m * 6, none⟩) (cap - m) (L.drop m)) := fun o => (Regs.drop (Regs.drewN hreg4 1)).later (below_alloc w4.drew o)
            have HNEW : Hid (Regs (w4.drew.alloc (.cells #[.int .i64 x.f, .int .i64 x.t, .int .i64 x.k, .int .i64 x.fi, .int .i64 x.ix, .bool x.wr] 25)) (some ⟨w4.heap.size, 0, none⟩) 1 [x]) := one_regs (RowAt.new w4.drew #[.int .i64 x.f, .int .i64 x.t, .int .i64 x.k, .int .i64 x.fi, .int .i64 x.ix, .bool x.wr] 25)
            have hmc : m ≤ cap := by have := hreg4.le; omega
            have hlc : L.length ≤ cap := hreg4.le
            have hcm : ¬ cap = m := by omega
            have HM1 : Hid (m = (L.take m).length) := by show _ = _; simp; omega
            have HM2 : Hid (L.length - m = (L.drop m).length) := by show _ = _; simp
            have HN1 : Hid ((L.take m).length + [x].length ≤ 1000000) := by show _ ≤ _; simp; omega
            have HN2 : Hid (∀ N, N = L.take m ++ [x] → N.length + (L.drop m).length ≤ 1000000) := by rintro N rfl; simp; omega
            clear hr4 hreg4
            go_region_law (first | (refine step_append_full rfl (.tmp 41) (.tmp 43) rfl w.heap.size (some ⟨b, off, none⟩) m m (L.take m) w4.heap.size 0 1 1 [x] rfl HM1.out HM1.out (HA.out _) rfl rfl HNEW.out Nat.zero_lt_one HN1.out HB5.out.size ?_; intro g a' c' N w' HN hown hg hgg) | (refine step_append_regs rfl (.tmp 44) (.tmp 47) rfl w.heap.size (some g) a' c' N (some ⟨b, off + m * 6, none⟩) ((cap - m)) (L.length - m) (L.drop m) rfl hown rfl HM2.out ((HD.out _).later (grown_later hg)) (HN2.out N HN.out) (bel_trans HB5.out (grown_later hg)).size ?_; intro o2 a2 c2 N2 w2' HNN hown2 hg2))
            all_goals
              go_wp2
              go_ret2
              refine ⟨a2, c2, N2, ?_, by rw [HF.out.2]; rfl, hown2.regs, grown_below hg2 (bel_trans HB5.out (grown_later hg)) (fun k hk => (hown.lo k hk).1)⟩
              rw [HF.out.1, HNN.out, HN.out]
              simp
        · obtain rfl : m = L.length := by omega
          have HF : Hid (addR L x = L ++ [x] ∧ addE L x = 0) := by
            have := HOK.out (HBZ2.out rfl)
            rw [List.take_length, List.drop_length] at this
            exact this
          clear HBUSY HOK HBZ HBZ2 hml hble
          cases a with
          | none =>
            have hc0 := hreg.nil rfl
            have hl0 : L = [] := List.eq_nil_of_length_eq_zero (by have := hreg.le; omega)
            subst hl0
            subst hc0
            go_wp2
            go_quiet (fail)
            go_wp2
            obtain ⟨w4, hw4⟩ : ∃ w4, w4 = w3.drewN nq := ⟨_, rfl⟩
            have hr4 : RowAt w4 w.heap.size 25 (rc x) := by rw [hw4]; exact hr3.drewN nq
            have hB4 : Below w.heap.size w w4 := by rw [hw4]; exact below_drawn hB3 nq
            have hreg4 := Regs.drewN hreg nq
            rw [← hw4] at hreg4 ⊢
            clear hw4 k0 k1 k2 k3 k4 k5 hr3 hB3 hreg
            obtain ⟨k0, k1, k2, k3, k4, k5⟩ := hr4.six
            have HB5 : Hid (Below w.heap.size w (w4.drew.alloc (.cells #[.int .i64 x.f, .int .i64 x.t, .int .i64 x.k, .int .i64 x.fi, .int .i64 x.ix, .bool x.wr] 25))) := bel_trans (below_drawn hB4 1) (below_alloc w4.drew _)
            have HA : Hid (∀ o, Regs (w4.drew.alloc o) none 0 []) := fun o => ⟨Nat.le_refl _, fun e => rfl, ((Regs.drewN hreg4 1).later (below_alloc w4.drew o)).at'⟩
            have HNEW : Hid (Regs (w4.drew.alloc (.cells #[.int .i64 x.f, .int .i64 x.t, .int .i64 x.k, .int .i64 x.fi, .int .i64 x.ix, .bool x.wr] 25)) (some ⟨w4.heap.size, 0, none⟩) 1 [x]) := one_regs (RowAt.new w4.drew #[.int .i64 x.f, .int .i64 x.t, .int .i64 x.k, .int .i64 x.fi, .int .i64 x.ix, .bool x.wr] 25)
            have HN1 : Hid (0 + [x].length ≤ 1000000) := by show _ ≤ _; simp
            have HN2 : Hid (∀ N, N = [] ++ [x] → N.length + ([] : List Rg).length ≤ 1000000) := by rintro N rfl; simp
            have hlc : 0 ≤ 0 := hreg4.le
            clear hr4 hreg4
            go_region_law (first | (refine step_append_full rfl (.tmp 41) (.tmp 43) rfl w.heap.size _ 0 0 [] w4.heap.size 0 1 1 [x] rfl rfl rfl (HA.out _) rfl rfl HNEW.out Nat.zero_lt_one HN1.out HB5.out.size ?_; intro g a' c' N w' HN hown hg hgg) | (refine step_append_regs rfl (.tmp 44) (.tmp 47) rfl w.heap.size (some g) a' c' N _ _ _ [] rfl hown rfl (by simp) (Regs.emp (fun _ => rfl)) (HN2.out N HN.out) (bel_trans HB5.out (grown_later hg)).size ?_; intro o2 a2 c2 N2 w2' HNN hown2 hg2))
            all_goals
              go_wp2
              go_ret2
              refine ⟨a2, c2, N2, ?_, by rw [HF.out.2]; rfl, hown2.regs, grown_below hg2 (bel_trans HB5.out (grown_later hg)) (fun k hk => (hown.lo k hk).1)⟩
              rw [HF.out.1, HNN.out, HN.out]
              simp
          | some ad =>
            by_cases hcm : cap = L.length
            · subst hcm
              go_wp2
              go_quiet (fail)
              go_wp2
              obtain ⟨w4, hw4⟩ : ∃ w4, w4 = w3.drewN nq := ⟨_, rfl⟩
              have hr4 : RowAt w4 w.heap.size 25 (rc x) := by rw [hw4]; exact hr3.drewN nq
              have hB4 : Below w.heap.size w w4 := by rw [hw4]; exact below_drawn hB3 nq
              have hreg4 := Regs.drewN hreg nq
              rw [← hw4] at hreg4 ⊢
              clear hw4 k0 k1 k2 k3 k4 k5 hr3 hB3 hreg
              obtain ⟨k0, k1, k2, k3, k4, k5⟩ := hr4.six
              have HB5 : Hid (Below w.heap.size w (w4.drew.alloc (.cells #[.int .i64 x.f, .int .i64 x.t, .int .i64 x.k, .int .i64 x.fi, .int .i64 x.ix, .bool x.wr] 25))) := bel_trans (below_drawn hB4 1) (below_alloc w4.drew _)
              have HA : Hid (∀ o, Regs (w4.drew.alloc o) (some ad) L.length L) := fun o => ⟨Nat.le_refl _, fun e => (by cases e), ((Regs.drewN hreg4 1).later (below_alloc w4.drew o)).at'⟩
              have HNEW : Hid (Regs (w4.drew.alloc (.cells #[.int .i64 x.f, .int .i64 x.t, .int .i64 x.k, .int .i64 x.fi, .int .i64 x.ix, .bool x.wr] 25)) (some ⟨w4.heap.size, 0, none⟩) 1 [x]) := one_regs (RowAt.new w4.drew #[.int .i64 x.f, .int .i64 x.t, .int .i64 x.k, .int .i64 x.fi, .int .i64 x.ix, .bool x.wr] 25)
              have HN1 : Hid (L.length + [x].length ≤ 1000000) := by show _ ≤ _; simp; omega
              have HN2 : Hid (∀ N, N = L ++ [x] → N.length + ([] : List Rg).length ≤ 1000000) := by rintro N rfl; simp; omega
              have hlc : L.length ≤ L.length := hreg4.le
              clear hr4 hreg4
              go_region_law (first | (refine step_append_full rfl (.tmp 41) (.tmp 43) rfl w.heap.size _ L.length L.length L w4.heap.size 0 1 1 [x] rfl rfl rfl (HA.out _) rfl rfl HNEW.out Nat.zero_lt_one HN1.out HB5.out.size ?_; intro g a' c' N w' HN hown hg hgg) | (refine step_append_regs rfl (.tmp 44) (.tmp 47) rfl w.heap.size (some g) a' c' N _ _ _ [] rfl hown rfl (by simp) (Regs.emp (fun h => by cases h)) (HN2.out N HN.out) (bel_trans HB5.out (grown_later hg)).size ?_; intro o2 a2 c2 N2 w2' HNN hown2 hg2))
              all_goals
                go_wp2
                go_ret2
                refine ⟨a2, c2, N2, ?_, by rw [HF.out.2]; rfl, hown2.regs, grown_below hg2 (bel_trans HB5.out (grown_later hg)) (fun k hk => (hown.lo k hk).1)⟩
                rw [HF.out.1, HNN.out, HN.out]
                simp
            · go_wp2
              go_quiet (fail)
              go_wp2
              obtain ⟨w4, hw4⟩ : ∃ w4, w4 = w3.drewN nq := ⟨_, rfl⟩
              have hr4 : RowAt w4 w.heap.size 25 (rc x) := by rw [hw4]; exact hr3.drewN nq
              have hB4 : Below w.heap.size w w4 := by rw [hw4]; exact below_drawn hB3 nq
              have hreg4 := Regs.drewN hreg nq
              rw [← hw4] at hreg4 ⊢
              clear hw4 k0 k1 k2 k3 k4 k5 hr3 hB3 hreg
              obtain ⟨k0, k1, k2, k3, k4, k5⟩ := hr4.six
              have HB5 : Hid (Below w.heap.size w (w4.drew.alloc (.cells #[.int .i64 x.f, .int .i64 x.t, .int .i64 x.k, .int .i64 x.fi, .int .i64 x.ix, .bool x.wr] 25))) := bel_trans (below_drawn hB4 1) (below_alloc w4.drew _)
              have HA : Hid (∀ o, Regs (w4.drew.alloc o) (some ad) L.length L) := fun o => ⟨Nat.le_refl _, fun e => (by cases e), ((Regs.drewN hreg4 1).later (below_alloc w4.drew o)).at'⟩
              have HNEW : Hid (Regs (w4.drew.alloc (.cells #[.int .i64 x.f, .int .i64 x.t, .int .i64 x.k, .int .i64 x.fi, .int .i64 x.ix, .bool x.wr] 25)) (some ⟨w4.heap.size, 0, none⟩) 1 [x]) := one_regs (RowAt.new w4.drew #[.int .i64 x.f, .int .i64 x.t, .int .i64 x.k, .int .i64 x.fi, .int .i64 x.ix, .bool x.wr] 25)
              have HN1 : Hid (L.length + [x].length ≤ 1000000) := by show _ ≤ _; simp; omega
              have HN2 : Hid (∀ N, N = L ++ [x] → N.length + ([] : List Rg).length ≤ 1000000) := by rintro N rfl; simp; omega
              have hlc : L.length ≤ cap := hreg4.le
              clear hr4 hreg4
              go_region_law (first | (refine step_append_full rfl (.tmp 41) (.tmp 43) rfl w.heap.size _ L.length L.length L w4.heap.size 0 1 1 [x] rfl rfl rfl (HA.out _) rfl rfl HNEW.out Nat.zero_lt_one HN1.out HB5.out.size ?_; intro g a' c' N w' HN hown hg hgg) | (refine step_append_regs rfl (.tmp 44) (.tmp 47) rfl w.heap.size (some g) a' c' N _ _ _ [] rfl hown rfl (by simp) (Regs.emp (fun h => by cases h)) (HN2.out N HN.out) (bel_trans HB5.out (grown_later hg)).size ?_; intro o2 a2 c2 N2 w2' HNN hown2 hg2))
              all_goals
                go_wp2
                go_ret2
                refine ⟨a2, c2, N2, ?_, by rw [HF.out.2]; rfl, hown2.regs, grown_below hg2 (bel_trans HB5.out (grown_later hg)) (fun k hk => (hown.lo k hk).1)⟩
                rw [HF.out.1, HNN.out, HN.out]
                simp
end Go.Proofs.Ytagobeoabkbhaaa
