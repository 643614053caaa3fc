/-
  The contract of the document's Right.
-/
import Derived.Test.YtagobeoabkbhaaaP3
import Derived.Test.YtagobeoabkbhaaaUp
namespace Go.Proofs.Ytagobeoabkbhaaa
open Go.RowKit

/-- Where the one ahead ends. -/
def endAt (L : List Rg) (j : Nat) : Int := if j = 0 then 0 else (L.getD (j - 1) zeroR).t

set_option maxHeartbeats 4000000 in
theorem rright (a : Option Addr) (cap : Nat) (L : List Rg) (w : World) (h : Regs w a cap L) (hL : L.length ≤ 9223372036854775807) :
    Calls Try.prog 16 #[.slice a L.length cap] w fun e w' => e = .returned (.bool (rt 0 L)) ∧ Below w.heap.size w w' := by
  obtain ⟨V, hV⟩ : ∃ V, V = rt 0 L := ⟨_, rfl⟩
  rw [← hV]
  go_enter Try.func16, Try.ntmps16
  go_wp2
  go_loopw [3] (fun s3 wr => ∃ (j : Nat), j ≤ L.length ∧ s3 = .int .i64 j ∧ V = rt (endAt L j) (L.drop j) ∧ Below w.heap.size w wr) (fun s3 _ => L.length - (intOf s3).toNat)
  case atStart => exact ⟨0, by omega, rfl, by rw [hV]; rfl, Below.refl _ _⟩
  case round =>
    obtain ⟨j, hj, rfl, hv, hb⟩ := hrel
    have hr := h.later hb
    clear h hV
    by_cases hjl : j < L.length
    · rw [rt_step L _ j hjl] at hv
      obtain ⟨b, off, rfl, c0, c1, c2, c3, c4, c5⟩ := hr.get hjl
      obtain ⟨x, hx⟩ : ∃ x, x = L[j] := ⟨_, rfl⟩
      rw [← hx] at hv c0 c1 c2 c3 c4 c5
      have hend : endAt L (j + 1) = x.t := by simp [endAt, hjl, hx]
      cases hq : vd x with
      | false =>
        have HF : Hid (V = false) := by show _ = _; rw [hv, hq]; rfl
        have HS : Hid (∀ w, Calls Try.prog 18 #[rv x] w fun e w' => e = .returned (.bool false) ∧ Below w.heap.size w w') := by
          intro w
          have := rvalid x w
          rw [hq] at this
          exact this
        clear hq hv hr hx hend
        go_wp2_with fail
        have k0 := Up.cell c0
        have k1 := Up.cell c1
        have k2 := Up.cell c2
        have k3 := Up.cell c3
        have k4 := Up.cell c4
        have k5 := Up.cell c5
        have hne := Up.any wr
        refine wp_region_up (by kernel_rfl) (by kernel_rfl) ?_
        repeat (go_big_quiet_step ((go_at_call 18; refine Up.call (HS.out _))))
        refine wpQuiet_nil ?_
        intro _ hw'
        obtain ⟨⟨w2, hbw⟩, rfl⟩ := hw'
        go_wp2
        go_ret
        exact ⟨by rw [HF.out]; rfl, bel_trans hb hbw⟩
      | true =>
        rw [hq] at hv
        have HS : Hid (∀ w, Calls Try.prog 18 #[rv x] w fun e w' => e = .returned (.bool true) ∧ Below w.heap.size w w') := by
          intro w
          have := rvalid x w
          rw [hq] at this
          exact this
        have hf0 := ((vd_iff x).1 hq).1
        by_cases hj0 : j = 0
        · have HF : Hid (V = rt x.t (L.drop (j + 1))) := by
            show _ = _
            have : ¬ x.f < endAt L j := by simp [endAt, hj0]; omega
            rw [hv]; simp [this]
          have HE : Hid (endAt L (j + 1) = x.t) := hend
          have hd0 : decide (0 < j) = false := by simp; omega
          clear hq hv hr hx hend hf0 hj0
          go_wp2_with fail
          have k0 := Up.cell c0
          have k1 := Up.cell c1
          have k2 := Up.cell c2
          have k3 := Up.cell c3
          have k4 := Up.cell c4
          have k5 := Up.cell c5
          have hne := Up.any wr
          refine wp_region_up (by kernel_rfl) (by kernel_rfl) ?_
          repeat (go_big_quiet_step ((go_at_call 18; refine Up.call (HS.out _))))
          refine wpQuiet_nil ?_
          intro _ hw'
          obtain ⟨⟨w2, hbw⟩, rfl⟩ := hw'
          have hB2 := bel_trans hb hbw
          clear hbw
          go_wp2
          exact ⟨⟨j + 1, by omega, by go_num, by rw [HE.out]; exact HF.out, hB2⟩, by simp [intOf]; omega⟩
        · obtain ⟨i, rfl⟩ : ∃ i, j = i + 1 := ⟨j - 1, by omega⟩
          clear hj0
          obtain ⟨b', off', e', -, y1, -⟩ := hr.get (j := i) (by omega)
          have e'' := Option.some.inj e'
          injection e'' with e1 e2
          subst e1
          subst e2
          clear e'
          obtain ⟨T, hT⟩ : ∃ T, T = (L[i]'(by omega)).t := ⟨_, rfl⟩
          rw [← hT] at y1
          have hendi : endAt L (i + 1) = T := by
            have : i < L.length := by omega
            simp [endAt, this, hT]
          rw [hendi] at hv
          have HE : Hid (endAt L (i + 1 + 1) = x.t) := hend
          have hd0 : decide (0 < i + 1) = true := by simp
          have hi0 : ((i + 1 : Nat) : Int) - 1 = i := by omega
          by_cases hlt : x.f < T
          · have HF : Hid (V = false) := by show _ = _; rw [hv]; simp [hlt]
            have hd : decide (x.f < T) = true := by simp; omega
            clear hq hv hr hx hend hf0 hT hendi HE
            go_wp2_with fail
            have k0 := Up.cell c0
            have k1 := Up.cell c1
            have k2 := Up.cell c2
            have k3 := Up.cell c3
            have k4 := Up.cell c4
            have k5 := Up.cell c5
            have k6 := Up.cell y1
            have hne := Up.any wr
            refine wp_region_up (by kernel_rfl) (by kernel_rfl) ?_
            repeat (go_big_quiet_step ((go_at_call 18; refine Up.call (HS.out _))))
            refine wpQuiet_nil ?_
            intro _ hw'
            obtain ⟨⟨w2, hbw⟩, rfl⟩ := hw'
            go_wp2
            go_ret
            exact ⟨by rw [HF.out]; rfl, bel_trans hb hbw⟩
          · have HF : Hid (V = rt x.t (L.drop (i + 1 + 1))) := by show _ = _; rw [hv]; simp [hlt]
            have hd : decide (x.f < T) = false := by simp; omega
            clear hq hv hr hx hend hf0 hT hendi
            go_wp2_with fail
            have k0 := Up.cell c0
            have k1 := Up.cell c1
            have k2 := Up.cell c2
            have k3 := Up.cell c3
            have k4 := Up.cell c4
            have k5 := Up.cell c5
            have k6 := Up.cell y1
            have hne := Up.any wr
            refine wp_region_up (by kernel_rfl) (by kernel_rfl) ?_
            repeat (go_big_quiet_step ((go_at_call 18; refine Up.call (HS.out _))))
            refine wpQuiet_nil ?_
            intro _ hw'
            obtain ⟨⟨w2, hbw⟩, rfl⟩ := hw'
            have hB2 := bel_trans hb hbw
            clear hbw
            go_wp2
            exact ⟨⟨i + 1 + 1, by omega, by go_num, by rw [HE.out]; exact HF.out, hB2⟩, by simp [intOf]; omega⟩
    · have hlen : j = L.length := by omega
      subst hlen
      have HF : Hid (V = true) := by show _ = _; rw [hv, List.drop_length]; rfl
      clear hv hr
      go_wp2
      go_ret
      exact ⟨by rw [HF.out]; rfl, hb⟩
end Go.Proofs.Ytagobeoabkbhaaa
