/-
  The document's Over.
-/
import Derived.Test.YtimgpikgkbjliaaR1
import Derived.Test.YtimgpikgkbjliaaP9
namespace Go.Proofs.Ytimgpikgkbjliaa
open Go.RowKit

set_option maxRecDepth 100000 in
set_option maxHeartbeats 8000000 in
theorem rover (a : Option Addr) (cap : Nat) (G : List Nd) (ae : Option Addr) (ce : Nat) (N : List Int) (t : Int) (w : World) (h : Nds w a cap G) (hE : Ints w ae N) (hL : G.length ≤ 1000000) (hN : N.length ≤ 1000000)
    (hbd : ∀ i, i < N.length → 0 ≤ at0 N i ∧ at0 N i ≤ 2199023255552) :
    Calls Try.prog 19 #[.slice a G.length cap, .slice ae N.length ce, .int .i64 t] w fun e w' => ∃ a' c', e = .returned (.slice a' (overL G N t).length c') ∧ Ints w' a' (overL G N t) ∧ Below w.heap.size w w' := by
  obtain ⟨V, hV⟩ : ∃ V, may G N.length t = V := ⟨_, rfl⟩
  have HBD : Hid (∀ i, i < N.length → 0 ≤ at0 N i ∧ at0 N i ≤ 2199023255552) := hbd
  clear hbd
  have HV : Hid (Calls Try.prog 31 #[.slice a G.length cap, .slice ae N.length ce, .int .i64 t] w fun e w' => e = .returned (.bool V) ∧ Below w.heap.size w w') := by
    have := rright a cap G ae N.length ce t w h hL (by omega)
    rw [hV] at this
    exact this
  have HM : Hid (overL G N t = if V then ovN G N t G.length else []) := by show _ = _; rw [← hV]; rfl
  cases V with
  | false =>
    have HF : Hid (overL G N t = []) := by show _ = _; rw [HM.out]; rfl
    clear hV HM
    go_enter Try.func19, Try.ntmps19
    go_wp2_with fail
    refine HV.out.mono ?_
    rintro e w1 ⟨rfl, hb1⟩
    go_wp2
    go_ret
    exact ⟨none, 0, by rw [HF.out]; rfl, by rw [HF.out]; exact ⟨fun j hj => by simp at hj⟩, hb1⟩
  | true =>
    obtain ⟨hok, hNG, ht0, ht1⟩ := may_ok hV
    have HNG : Hid (N.length = G.length) := hNG
    have HMY : Hid (may G N.length t = true) := hV
    clear hNG
    have HF : Hid (overL G N t = ovN G N t G.length) := by show _ = _; rw [HM.out]; rfl
    have hlen := hok.len
    have HG : Hid (∀ w', Below w.heap.size w w' → Nds w' a cap G) := fun w' hb => h.later hb
    have HJ : Hid (∀ w', Below w.heap.size w w' → Ints w' ae N) := fun w' hb => hE.later hb
    clear hV HM
    go_enter Try.func19, Try.ntmps19
    go_wp2_with fail
    refine HV.out.mono ?_
    rintro e w3 ⟨rfl, hb3⟩
    go_wp2_with (at_make; refine wpList_make_row _ rfl (.tmp 15) (.tmp 15) 25 rfl 3 (.int .i64 0) 8 Try.underlying25 info3 rfl .i64 .i64 _ _ G.length rfl rfl rfl rfl (by omega) (by omega) ?_; intro w4 hr4 hz4 hb4)
    rw [ci_zero, ← ovRow_zero G N t] at hr4
    have hb4' := bel_trans hb3 hb4
    have hbe : w.heap.size ≤ w3.heap.size := hb3.size
    generalize w3.heap.size = be at *
    clear h hE hb3 hb4 hz4
    go_loopw [8] (fun s8 wr => ∃ j : Nat, j ≤ G.length ∧ s8 = .int .i64 j ∧ RowAt wr be 3 (ci (ovRow G N t j)) ∧ Below w.heap.size w wr) (fun s8 _ => G.length - (intOf s8).toNat)
    case atStart => exact ⟨0, by omega, rfl, hr4, hb4'⟩
    case round =>
      clear hr4 hb4'
      obtain ⟨j, hj, rfl, hr, hb⟩ := hrel
      by_cases hjl : j < G.length
      · obtain ⟨b, off, e1, c0, c1, c2⟩ := (HG.out _ hb).get hjl
        obtain ⟨be2, offe, e2, v1⟩ := (HJ.out _ hb).at' j (by rw [HNG.out]; exact hjl)
        have v1' : wr.cell? ⟨be2, offe + j, none⟩ = some (.int .i64 (at0 N j)) := v1
        subst e1 e2
        obtain ⟨z0, z1⟩ := HBD.out j (by rw [HNG.out]; exact hjl)
        have hu := hok.u j
        have hjN : j < N.length := by rw [HNG.out]; exact hjl
        obtain ⟨u, hue⟩ : ∃ u, u = use G j := ⟨_, rfl⟩
        rw [← hue] at c1 hu
        obtain ⟨B, hB⟩ : ∃ B, blw G t j = B := ⟨_, rfl⟩
        obtain ⟨E, hEd⟩ : ∃ E, hd G (at0 N) t j = E := ⟨_, rfl⟩
        have HW : Hid (∀ w', Nds w' (some ⟨b, off, none⟩) cap G → Calls Try.prog 27 #[.slice (some ⟨b, off, none⟩) G.length cap, .int .i64 j, .int .i64 t] w' fun e w'' => e = .returned (.bool B) ∧ Below w'.heap.size w' w'') := by
          intro w' h
          have := rbelow _ cap G t j w' h hok hjl ht0
          rw [hB] at this
          exact this.mono fun e w'' h => ⟨h.1, by rw [h.2]; exact Below.refl _ _⟩
        have HD : Hid (B = true → ∀ w', Nds w' (some ⟨b, off, none⟩) cap G → Ints w' (some ⟨be2, offe, none⟩) N → Calls Try.prog 16 #[.slice (some ⟨b, off, none⟩) G.length cap, .slice (some ⟨be2, offe, none⟩) N.length ce, .int .i64 t, .int .i64 j] w' fun e w'' => e = .returned (.bool E) ∧ Below w'.heap.size w' w'') := by
          intro hBt w' h h2
          have := rHeld _ cap G _ ce N t j w' h h2 hL (by omega)
          have e : held G N t j = E := by
            unfold held
            rw [HMY.out, hB, hBt, hEd]
            have : isPlc G.length j = true := by simp [isPlc]; omega
            rw [this]; rfl
          rw [e] at this
          exact this
        have HR0 : Hid ((B && (!E && decide (at0 N j < u))) = false → ∀ W, RowAt W be 3 (ci (ovRow G N t j)) → RowAt W be 3 (ci (ovRow G N t (j + 1)))) := by
          intro hBE W hW
          rw [← ovRow_none G N t hjl ?_]
          · exact hW
          · unfold ov
            rw [hB, hEd, ← hue]
            by_cases hbe2 : (B && !E) = true
            · rw [if_pos hbe2]
              have : decide (at0 N j < u) = false := by
                cases B <;> cases E <;> simp_all
              simp at this
              omega
            · rw [if_neg hbe2]
        have HR1 : Hid ((B && (!E && decide (at0 N j < u))) = true → ∀ W, RowAt W be 3 (ci (ovRow G N t j)) → RowAt (W.setCell ⟨be, j, none⟩ (.int .i64 (u - at0 N j))) be 3 (ci (ovRow G N t (j + 1)))) := by
          intro hBE W hW
          have : ov G N t j = u - at0 N j := by
            unfold ov
            rw [hB, hEd, ← hue]
            simp only [Bool.and_eq_true, decide_eq_true_eq] at hBE
            rw [if_pos (by simp [hBE.1, hBE.2.1])]
            omega
          rw [← ovRow_set G N t hjl, this, ← ci_set]
          exact hW.set j _
        obtain ⟨Z, hZ⟩ : ∃ Z, Z = at0 N j := ⟨_, rfl⟩
        rw [← hZ] at v1' HR0 HR1 z0 z1
        have s7 : ∀ W, RowAt W be 3 (ci (ovRow G N t j)) → W.cell? ⟨be, j, none⟩ = some (.int .i64 (at0 (ovRow G N t j) j)) := by
          intro W hW
          rw [hW.cell]
          exact ci_get _ _ (by rw [ovRow_len G N t hj]; exact hjl)
        have HS7 : Hid (∀ W, RowAt W be 3 (ci (ovRow G N t j)) → W.cell? ⟨be, j, none⟩ = some (.int .i64 (at0 (ovRow G N t j) j))) := s7
        have e1 : IntKind.i64.wrap (u - Z) = u - Z := by rw [IntKind.wrap_i64]; omega
        have HGB : Hid (∀ q : Up wr, Nds q.p (some ⟨b, off, none⟩) cap G ∧ Ints q.p (some ⟨be2, offe, none⟩) N) := fun q => ⟨HG.out _ (bel_trans hb q.h), HJ.out _ (bel_trans hb q.h)⟩
        have hne := Up.any wr
        have l1 := Up.cell c1
        have l2 := Up.cell v1'
        clear s7 hue hZ hB hEd v1 c0 c2
        cases B with
        | false =>
          have HR := HR0.out rfl
          clear HR0 HR1
          go_wp2_with fail
          refine wp_region_up (by kernel_rfl) (by kernel_rfl) ?_
          repeat (go_big_quiet_step ((go_at_call 27; refine Up.call (HW.out _ (HGB.out _).1))))
          refine wpQuiet_nil ?_
          intro w17 hw'
          obtain ⟨⟨_, hbw⟩, rfl⟩ := hw'
          go_wp2
          exact ⟨⟨j + 1, by omega, by go_num, HR _ (hr.later hbw), bel_trans hb hbw⟩, by simp [intOf]; omega⟩
        | true =>
          have HD2 := HD.out rfl
          have HD3 : Hid (∀ w', Nds w' (some ⟨b, off, none⟩) cap G → Ints w' (some ⟨be2, offe, none⟩) N → Calls Try.prog 16 #[.slice (some ⟨b, off, none⟩) G.length cap, .slice (some ⟨be2, offe, none⟩) N.length ce, .int .i64 t, .int .i64 j] w' fun e w'' => e = .returned (.bool E) ∧ Below w'.heap.size w' w'') := HD2
          clear HD HD2
          cases E with
          | true =>
            have HR := HR0.out rfl
            clear HR0 HR1
            go_wp2_with fail
            refine wp_region_up (by kernel_rfl) (by kernel_rfl) ?_
            repeat (go_big_quiet_step (first | (go_at_call 27; refine Up.call (HW.out _ (HGB.out _).1)) | (go_at_call 16; refine Up.call (HD3.out _ (HGB.out _).1 (HGB.out _).2))))
            refine wpQuiet_nil ?_
            intro w17 hw'
            obtain ⟨⟨_, hbw⟩, rfl⟩ := hw'
            go_wp2
            exact ⟨⟨j + 1, by omega, by go_num, HR _ (hr.later hbw), bel_trans hb hbw⟩, by simp [intOf]; omega⟩
          | false =>
            by_cases hZu : Z < u
            · have hd : decide (Z < u) = true := by simpa using hZu
              have HR : Hid (∀ W, RowAt W be 3 (ci (ovRow G N t j)) → RowAt (W.setCell ⟨be, j, none⟩ (.int .i64 (u - Z))) be 3 (ci (ovRow G N t (j + 1)))) := HR1.out (by rw [hd]; rfl)
              clear HR0 HR1
              go_wp2_with fail
              refine wp_region_up (by kernel_rfl) (by kernel_rfl) ?_
              repeat (go_big_quiet_step (first | (go_at_call 27; refine Up.call (HW.out _ (HGB.out _).1)) | (go_at_call 16; refine Up.call (HD3.out _ (HGB.out _).1 (HGB.out _).2))))
              refine wpQuiet_nil ?_
              intro w17 hw'
              obtain ⟨⟨_, hbw⟩, rfl⟩ := hw'
              have hr7 := hr.later hbw
              have hB7 := bel_trans hb hbw
              have k1 := cell_later hbw c1
              have k2 := cell_later hbw v1'
              have s7 := HS7.out _ hr7
              have f7 := hr7.frozen j
              clear hbw hr hb c1 v1' l1 l2 hne HGB
              go_wp2_with fail
              go_region
              go_wp2
              exact ⟨⟨j + 1, by omega, by go_num, (HR.out _ hr7).drewN 1, below_drawn (hB7.setCell (p := ⟨be, j, none⟩) hbe _) 1⟩, by simp [intOf]; omega⟩
            · have hd : decide (Z < u) = false := by simpa using hZu
              have HR := HR0.out (by rw [hd]; rfl)
              clear HR0 HR1
              go_wp2_with fail
              refine wp_region_up (by kernel_rfl) (by kernel_rfl) ?_
              repeat (go_big_quiet_step (first | (go_at_call 27; refine Up.call (HW.out _ (HGB.out _).1)) | (go_at_call 16; refine Up.call (HD3.out _ (HGB.out _).1 (HGB.out _).2))))
              refine wpQuiet_nil ?_
              intro w17 hw'
              obtain ⟨⟨_, hbw⟩, rfl⟩ := hw'
              go_wp2
              exact ⟨⟨j + 1, by omega, by go_num, HR _ (hr.later hbw), bel_trans hb hbw⟩, by simp [intOf]; omega⟩
      · have hlenj : j = G.length := by omega
        subst hlenj
        rw [ovRow_end] at hr
        go_wp2
        go_ret
        refine ⟨some ⟨be, 0, none⟩, G.length, ?_, ?_, hb⟩
        · rw [HF.out, ovN_len]; rfl
        · rw [HF.out]; exact Ints.ofRow hr
end Go.Proofs.Ytimgpikgkbjliaa
