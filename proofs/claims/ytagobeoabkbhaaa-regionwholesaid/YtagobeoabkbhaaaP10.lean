/-
  The contract of the document's Cut.
-/
import Derived.Test.YtagobeoabkbhaaaP9
namespace Go.Proofs.Ytagobeoabkbhaaa
open Go.RowKit

set_option maxHeartbeats 4000000 in
theorem rcut (a : Option Addr) (cap : Nat) (L : List Rg) (f t : Int) (w : World) (h : Regs w a cap L) (hL : L.length ≤ 1000) :
    Calls Try.prog 25 #[.slice a L.length cap, .int .i64 f, .int .i64 t] w fun e w' => ∃ a' c' N, N = cutR L f t ∧ e = .returned (.slice a' N.length c') ∧ Regs w' a' c' N ∧ Below w.heap.size w w' := by
  have HR1 : Hid (∀ w, Regs w a cap L → Calls Try.prog 16 #[.slice a L.length cap] w fun e w' => e = .returned (.bool (rt 0 L)) ∧ Below w.heap.size w w') := fun w h => rright a cap L w h (by omega)
  cases hq : rt 0 L with
  | false =>
    have HF : Hid ([] = cutR L f t) := by show _ = _; unfold cutR; rw [hq]; rfl
    rw [hq] at HR1
    clear hq
    go_enter Try.func25, Try.ntmps25
    go_wp2_with fail
    refine (HR1.out _ h).mono ?_
    rintro e w1 ⟨rfl, hb1⟩
    go_wp2
    go_ret
    exact ⟨none, 0, [], HF.out, rfl, ⟨Nat.le_refl _, fun _ => rfl, fun j hj => by simp at hj⟩, hb1⟩
  | true =>
    have HR : Hid (RL L) := (rt_iff L).1 hq
    have HC : Hid (cutR L f t = cutL L f t) := cutR_right HR.out f t
    rw [hq] at HR1
    clear hq
    have HP : Hid (∀ j (hj : j < L.length), (L.take (j + 1)).flatMap (piece f t) = (L.take j).flatMap (piece f t) ++ piece f t L[j]) := fun j hj => flatMap_take L _ j hj
    have HL : Hid (∀ j, ((L.take j).flatMap (piece f t)).length ≤ 2 * L.length) := fun j => cut_len L f t j
    go_enter Try.func25, Try.ntmps25
    go_wp2_with fail
    refine (HR1.out _ h).mono ?_
    rintro e w1 ⟨rfl, hb1⟩
    clear HR1
    go_wp2
    go_loopw [7, 8] (fun s7 s8 wr => ∃ (j : Nat) (a' : Option Addr) (c' : Nat) (N : List Rg) (o : Option Nat), j ≤ L.length ∧ s8 = .int .i64 j ∧ s7 = .slice a' N.length c' ∧ N = (L.take j).flatMap (piece f t) ∧ OwnL wr w.heap.size o a' c' N ∧ Below w.heap.size w wr) (fun _ s8 _ => L.length - (intOf s8).toNat)
    case atStart => exact ⟨0, _, 0, [], none, by omega, rfl, rfl, rfl, OwnL.nil _ _ _, hb1⟩
    case round =>
      obtain ⟨j, a', c', N, o, hj, rfl, rfl, hN, hown, hb⟩ := hrel
      clear hb1
      have hr := h.later hb
      by_cases hjl : j < L.length
      · obtain ⟨b, off, rfl, c0, c1, c2, c3, c4, c5⟩ := hr.get hjl
        have hs := HP.out j hjl
        have hl := HL.out j
        rw [← hN] at hs hl
        have hv := HR.out.vd hjl
        obtain ⟨x, hx⟩ : ∃ x, x = L[j] := ⟨_, rfl⟩
        rw [← hx] at hs hv c0 c1 c2 c3 c4 c5
        have HS : Hid ((L.take (j + 1)).flatMap (piece f t) = N ++ piece f t x) := hs
        have HV : Hid (Vd x) := hv
        have HLN : Hid (N.length ≤ 2 * L.length) := hl
        clear hs hl hx hN hr hv h
        have hne : o ≠ some wr.heap.size := fun e => by have := (hown.lo _ e).2; omega
        have hlo : Hid (∀ k, o = some k → w.heap.size ≤ k) := fun k hk => (hown.lo k hk).1
        have HB1 : Hid (N.length + ([x] : List Rg).length ≤ 1000000) := by have := HLN.out; show _ ≤ _; simp only [List.length_cons, List.length_nil]; omega
        by_cases hft : t ≤ f
        · have q1 : decide (t ≤ f) = true := by simp; omega
          have HPC : Hid (piece f t x = [x]) := piece_back f t x hft
          have HW := two_boxes wr (.cells #[.int .i64 x.f, .int .i64 x.t, .int .i64 x.k, .int .i64 x.fi, .int .i64 x.ix, .bool x.wr] 25) x
          have hrow := HW.1
          have hB4 := bel_trans hb HW.2
          have hown4 := hown.later HW.2
          clear HW
          go_wp2_with (at_builtin; refine wpList_append_regs rfl (.tmp 38) (.tmp 40) rfl w.heap.size o a' c' N (some ⟨wr.heap.size + 1, 0, none⟩) 1 1 [x] rfl hown4 rfl rfl (one_regs hrow) HB1.out hB4.size ?_; rintro o1 a1 c1 N1 w51 HN1 hown51 hg1 hoo1)
          have HF : Hid (N1 = (L.take (j + 1)).flatMap (piece f t)) := by show _ = _; rw [HN1.out, HS.out, HPC.out]
          exact ⟨⟨j + 1, a1, c1, N1, o1, by omega, by go_num, rfl, HF.out, hown51, grown_below hg1 hB4 hlo.out⟩, by simp [intOf]; omega⟩
        have q1 : decide (t ≤ f) = false := by simp; omega
        by_cases hxf : x.t ≤ f
        · have q2 : decide (x.t ≤ f) = true := by simp; omega
          have HPC : Hid (piece f t x = [x]) := piece_off HV.out (Or.inl hxf)
          have HW := two_boxes wr (.cells #[.int .i64 x.f, .int .i64 x.t, .int .i64 x.k, .int .i64 x.fi, .int .i64 x.ix, .bool x.wr] 25) x
          have hrow := HW.1
          have hB4 := bel_trans hb HW.2
          have hown4 := hown.later HW.2
          clear HW
          go_wp2_with (at_builtin; refine wpList_append_regs rfl (.tmp 38) (.tmp 40) rfl w.heap.size o a' c' N (some ⟨wr.heap.size + 1, 0, none⟩) 1 1 [x] rfl hown4 rfl rfl (one_regs hrow) HB1.out hB4.size ?_; rintro o1 a1 c1 N1 w51 HN1 hown51 hg1 hoo1)
          have HF : Hid (N1 = (L.take (j + 1)).flatMap (piece f t)) := by show _ = _; rw [HN1.out, HS.out, HPC.out]
          exact ⟨⟨j + 1, a1, c1, N1, o1, by omega, by go_num, rfl, HF.out, hown51, grown_below hg1 hB4 hlo.out⟩, by simp [intOf]; omega⟩
        have q2 : decide (x.t ≤ f) = false := by simp; omega
        by_cases hxt : t ≤ x.f
        · have q3 : decide (t ≤ x.f) = true := by simp; omega
          have HPC : Hid (piece f t x = [x]) := piece_off HV.out (Or.inr hxt)
          have HW := two_boxes wr (.cells #[.int .i64 x.f, .int .i64 x.t, .int .i64 x.k, .int .i64 x.fi, .int .i64 x.ix, .bool x.wr] 25) x
          have hrow := HW.1
          have hB4 := bel_trans hb HW.2
          have hown4 := hown.later HW.2
          clear HW
          go_wp2_with (at_builtin; refine wpList_append_regs rfl (.tmp 38) (.tmp 40) rfl w.heap.size o a' c' N (some ⟨wr.heap.size + 1, 0, none⟩) 1 1 [x] rfl hown4 rfl rfl (one_regs hrow) HB1.out hB4.size ?_; rintro o1 a1 c1 N1 w51 HN1 hown51 hg1 hoo1)
          have HF : Hid (N1 = (L.take (j + 1)).flatMap (piece f t)) := by show _ = _; rw [HN1.out, HS.out, HPC.out]
          exact ⟨⟨j + 1, a1, c1, N1, o1, by omega, by go_num, rfl, HF.out, hown51, grown_below hg1 hB4 hlo.out⟩, by simp [intOf]; omega⟩
        have q3 : decide (t ≤ x.f) = false := by simp; omega
        have HPC : Hid (piece f t x = (if x.f < f then [part x x.f f] else []) ++ (if t < x.t then [part x t x.t] else [])) := piece_in hft hxf hxt
        obtain ⟨w2, hw2, hr2, hB2, hb2⟩ := boxOn w wr x hb
        have hown2 := hown.later hb2
        obtain ⟨k0, k1, k2, k3, k4, k5⟩ := hr2.six
        by_cases hA : x.f < f
        · have qA : decide (x.f < f) = true := by simp; omega
          by_cases hBt : t < x.t
          · have qB : decide (t < x.t) = true := by simp; omega
            have HB2 : Hid (∀ M : List Rg, M = N ++ [part x x.f f] → M.length + ([x] : List Rg).length ≤ 1000000) := by rintro M rfl; have := HLN.out; simp only [List.length_append, List.length_cons, List.length_nil]; omega
            go_wp2_with fail
            rw [← hw2]
            refine (rpart x x.f f _).mono ?_
            rintro e w31 ⟨rfl, hb31⟩
            have hown31 := hown2.later hb31
            have hr31 := hr2.later hb31
            have hB31 := bel_trans hB2 hb31
            obtain ⟨y1, hy1⟩ : ∃ y, y = part x x.f f := ⟨_, rfl⟩
            rw [← hy1]
            have HY1 : Hid (y1 = part x x.f f) := hy1
            clear hy1
            have hB41 := bel_trans hB31 (below_alloc w31 (.cells #[.int .i64 y1.f, .int .i64 y1.t, .int .i64 y1.k, .int .i64 y1.fi, .int .i64 y1.ix, .bool y1.wr] 25))
            clear hb31
            go_wp2_with (at_builtin; refine wpList_append_regs rfl (.tmp 46) (.tmp 52) rfl w.heap.size o a' c' N (some ⟨w31.heap.size, 0, none⟩) 1 1 [y1] rfl (hown31.later (below_alloc _ _)) rfl rfl (one_regs (RowAt.new w31 #[.int .i64 y1.f, .int .i64 y1.t, .int .i64 y1.k, .int .i64 y1.fi, .int .i64 y1.ix, .bool y1.wr] 25)) HB1.out hB41.size ?_; rintro o1 a1 c1 N1 w51 HN1 hown51 hg1 hoo1; have hr51 := grown_row hg1 (hr31.later (below_alloc _ _)) hne; obtain ⟨l01, l11, l21, l31, l41, l51⟩ := hr51.six; have hr31b := hr31.later (below_alloc w31 (.cells #[.int .i64 y1.f, .int .i64 y1.t, .int .i64 y1.k, .int .i64 y1.fi, .int .i64 y1.ix, .bool y1.wr] 25)); clear hr31)
            have hB51 := grown_below hg1 hB41 hlo.out
            have hne2 : o1 ≠ some wr.heap.size := own_apart hoo1 (hr31b.lt) hne
            have HB2 := HB2.out N1 (by rw [HN1.out, HY1.out])
            go_wp2_with fail
            refine (rpart x t x.t _).mono ?_
            rintro e w32 ⟨rfl, hb32⟩
            have hown32 := hown51.later hb32
            have hr32 := hr51.later hb32
            have hB32 := bel_trans hB51 hb32
            obtain ⟨y2, hy2⟩ : ∃ y, y = part x t x.t := ⟨_, rfl⟩
            rw [← hy2]
            have HY2 : Hid (y2 = part x t x.t) := hy2
            clear hy2
            have hB42 := bel_trans hB32 (below_alloc w32 (.cells #[.int .i64 y2.f, .int .i64 y2.t, .int .i64 y2.k, .int .i64 y2.fi, .int .i64 y2.ix, .bool y2.wr] 25))
            clear hb32
            go_wp2_with (at_builtin; refine wpList_append_regs rfl (.tmp 58) (.tmp 64) rfl w.heap.size o1 a1 c1 N1 (some ⟨w32.heap.size, 0, none⟩) 1 1 [y2] rfl (hown32.later (below_alloc _ _)) rfl rfl (one_regs (RowAt.new w32 #[.int .i64 y2.f, .int .i64 y2.t, .int .i64 y2.k, .int .i64 y2.fi, .int .i64 y2.ix, .bool y2.wr] 25)) HB2 hB42.size ?_; rintro o2 a2 c2 N2 w52 HN2 hown52 hg2 hoo2; have hr52 := grown_row hg2 (hr32.later (below_alloc _ _)) hne2; obtain ⟨l02, l12, l22, l32, l42, l52⟩ := hr52.six; clear hr32)
            have HF : Hid (N2 = (L.take (j + 1)).flatMap (piece f t)) := by show _ = _; rw [HN2.out, HN1.out, HS.out, HPC.out, HY1.out, HY2.out, if_pos (show x.f < f by omega), if_pos (show t < x.t by omega)]; simp
            exact ⟨⟨j + 1, a2, c2, N2, o2, by omega, by go_num, rfl, HF.out, hown52, grown_below hg2 hB42 (fun k hk => (hown51.lo k hk).1)⟩, by simp [intOf]; omega⟩
          · have qB : decide (t < x.t) = false := by simp; omega
            go_wp2_with fail
            rw [← hw2]
            refine (rpart x x.f f _).mono ?_
            rintro e w31 ⟨rfl, hb31⟩
            have hown31 := hown2.later hb31
            have hr31 := hr2.later hb31
            have hB31 := bel_trans hB2 hb31
            obtain ⟨y1, hy1⟩ : ∃ y, y = part x x.f f := ⟨_, rfl⟩
            rw [← hy1]
            have HY1 : Hid (y1 = part x x.f f) := hy1
            clear hy1
            have hB41 := bel_trans hB31 (below_alloc w31 (.cells #[.int .i64 y1.f, .int .i64 y1.t, .int .i64 y1.k, .int .i64 y1.fi, .int .i64 y1.ix, .bool y1.wr] 25))
            clear hb31
            go_wp2_with (at_builtin; refine wpList_append_regs rfl (.tmp 46) (.tmp 52) rfl w.heap.size o a' c' N (some ⟨w31.heap.size, 0, none⟩) 1 1 [y1] rfl (hown31.later (below_alloc _ _)) rfl rfl (one_regs (RowAt.new w31 #[.int .i64 y1.f, .int .i64 y1.t, .int .i64 y1.k, .int .i64 y1.fi, .int .i64 y1.ix, .bool y1.wr] 25)) HB1.out hB41.size ?_; rintro o1 a1 c1 N1 w51 HN1 hown51 hg1 hoo1; have hr51 := grown_row hg1 (hr31.later (below_alloc _ _)) hne; obtain ⟨l01, l11, l21, l31, l41, l51⟩ := hr51.six; have hr31b := hr31.later (below_alloc w31 (.cells #[.int .i64 y1.f, .int .i64 y1.t, .int .i64 y1.k, .int .i64 y1.fi, .int .i64 y1.ix, .bool y1.wr] 25)); clear hr31)
            have HF : Hid (N1 = (L.take (j + 1)).flatMap (piece f t)) := by show _ = _; rw [HN1.out, HS.out, HPC.out, HY1.out, if_pos (show x.f < f by omega), if_neg (show ¬ t < x.t by omega)]; simp
            exact ⟨⟨j + 1, a1, c1, N1, o1, by omega, by go_num, rfl, HF.out, hown51, grown_below hg1 hB41 hlo.out⟩, by simp [intOf]; omega⟩
        · have qA : decide (x.f < f) = false := by simp; omega
          by_cases hBt : t < x.t
          · have qB : decide (t < x.t) = true := by simp; omega
            go_wp2_with fail
            rw [← hw2]
            refine (rpart x t x.t _).mono ?_
            rintro e w31 ⟨rfl, hb31⟩
            have hown31 := hown2.later hb31
            have hr31 := hr2.later hb31
            have hB31 := bel_trans hB2 hb31
            obtain ⟨y1, hy1⟩ : ∃ y, y = part x t x.t := ⟨_, rfl⟩
            rw [← hy1]
            have HY1 : Hid (y1 = part x t x.t) := hy1
            clear hy1
            have hB41 := bel_trans hB31 (below_alloc w31 (.cells #[.int .i64 y1.f, .int .i64 y1.t, .int .i64 y1.k, .int .i64 y1.fi, .int .i64 y1.ix, .bool y1.wr] 25))
            clear hb31
            go_wp2_with (at_builtin; refine wpList_append_regs rfl (.tmp 58) (.tmp 64) rfl w.heap.size o a' c' N (some ⟨w31.heap.size, 0, none⟩) 1 1 [y1] rfl (hown31.later (below_alloc _ _)) rfl rfl (one_regs (RowAt.new w31 #[.int .i64 y1.f, .int .i64 y1.t, .int .i64 y1.k, .int .i64 y1.fi, .int .i64 y1.ix, .bool y1.wr] 25)) HB1.out hB41.size ?_; rintro o1 a1 c1 N1 w51 HN1 hown51 hg1 hoo1; have hr51 := grown_row hg1 (hr31.later (below_alloc _ _)) hne; obtain ⟨l01, l11, l21, l31, l41, l51⟩ := hr51.six; have hr31b := hr31.later (below_alloc w31 (.cells #[.int .i64 y1.f, .int .i64 y1.t, .int .i64 y1.k, .int .i64 y1.fi, .int .i64 y1.ix, .bool y1.wr] 25)); clear hr31)
            have HF : Hid (N1 = (L.take (j + 1)).flatMap (piece f t)) := by show _ = _; rw [HN1.out, HS.out, HPC.out, HY1.out, if_neg (show ¬ x.f < f by omega), if_pos (show t < x.t by omega)]; simp
            exact ⟨⟨j + 1, a1, c1, N1, o1, by omega, by go_num, rfl, HF.out, hown51, grown_below hg1 hB41 hlo.out⟩, by simp [intOf]; omega⟩
          · have qB : decide (t < x.t) = false := by simp; omega
            have HF : Hid ((L.take (j + 1)).flatMap (piece f t) = N) := by show _ = _; rw [HS.out, HPC.out, if_neg (show ¬ x.f < f by omega), if_neg (show ¬ t < x.t by omega)]; simp
            clear HS HPC
            go_wp2
            rw [← hw2]
            exact ⟨⟨j + 1, a', c', N, o, by omega, by go_num, rfl, HF.out.symm, hown2, hB2⟩, by simp [intOf]; omega⟩
      · have HF : Hid (N = cutR L f t) := by show _ = _; rw [hN, HC.out, List.take_of_length_le (by omega)]; rfl
        clear hN hr
        go_wp2
        go_ret
        exact ⟨a', c', N, HF.out, rfl, hown.regs, hb⟩
end Go.Proofs.Ytagobeoabkbhaaa
