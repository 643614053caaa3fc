/-
  The contract of Cut.
-/
import Derived.Test.YtagobeoabkbhaaaOwn
namespace Go.Proofs.Ytagobeoabkbhaaa
open Go.RowKit

theorem flatMap_take (L : List Rg) (g : Rg → List Rg) (j : Nat) (hj : j < L.length) : (L.take (j + 1)).flatMap g = (L.take j).flatMap g ++ g L[j] := by
  rw [← List.take_append_getElem hj, List.flatMap_append]
  simp
theorem cut_len (L : List Rg) (f t : Int) (j : Nat) : ((L.take j).flatMap (piece f t)).length ≤ 2 * L.length := by
  have := cutL_length (L.take j) f t
  unfold cutL at this
  have h2 : (L.take j).length ≤ L.length := by simp; omega
  omega

set_option maxHeartbeats 4000000 in
theorem pcut (a : Option Addr) (cap : Nat) (L : List Rg) (f t : Int) (w : World) (h : Regs w a cap L) (hL : L.length ≤ 1000) :
    Calls Try.prog 24 #[.slice a L.length cap, .int .i64 f, .int .i64 t] w fun e w' => ∃ a' c' N, N = cutR L f t ∧ e = .returned (.slice a' N.length c') ∧ Regs w' a' c' N ∧ Below w.heap.size w w' := by
  have HR1 : Hid (∀ w, Regs w a cap L → Calls Try.prog 19 #[.slice a L.length cap] w fun e w' => e = .returned (.bool (rt 0 L)) ∧ Below w.heap.size w w') := fun w h => pright a cap L w h (by omega)
  cases hq : rt 0 L with
  | false =>
    have HF : Hid ([] = cutR L f t) := by show _ = _; unfold cutR; rw [hq]; rfl
    rw [hq] at HR1
    clear hq
    go_enter Try.func24, Try.ntmps24
    go_wp2_with fail
    refine (HR1.out _ h).mono ?_
    rintro e w1 ⟨rfl, hb1⟩
    go_wp2
    go_ret
    exact ⟨none, 0, [], HF.out, rfl, ⟨Nat.le_refl _, fun _ => rfl, fun j hj => by simp at hj⟩, hb1⟩
  | true =>
    have HR : Hid (RL L) := (rt_iff L).1 hq
    have HC : Hid (cutR L f t = cutL L f t) := cutR_right HR.out f t
    rw [hq] at HR1
    clear hq
    by_cases hft : t ≤ f
    · have HC2 : Hid (cutR L f t = L) := by show _ = _; rw [HC.out, cutL_back L f t hft]
      go_enter Try.func24, Try.ntmps24
      go_wp2_with fail
      refine (HR1.out _ h).mono ?_
      rintro e w1 ⟨rfl, hb1⟩
      have h1 := h.later hb1
      cases a with
      | none =>
        go_wp2_with (at_builtin; refine wpList_append_regs rfl (.tmp 17) (.tmp 18) rfl w.heap.size none none 0 [] none cap L.length L rfl (OwnL.nil _ _ _) rfl rfl h1 (by simp; omega) hb1.size ?_; rintro o' a' c' N w' HN hown hg hoo)
        go_ret
        exact ⟨a', c', N, by rw [HC2.out]; simpa using HN.out, rfl, hown.regs, grown_below hg hb1 (fun k hk => by cases hk)⟩
      | some ad =>
        go_wp2_with (at_builtin; refine wpList_append_regs rfl (.tmp 17) (.tmp 18) rfl w.heap.size none _ 0 [] (some ad) cap L.length L rfl (OwnL.nil _ _ _) rfl rfl h1 (by simp; omega) hb1.size ?_; rintro o' a' c' N w' HN hown hg hoo)
        go_ret
        exact ⟨a', c', N, by rw [HC2.out]; simpa using HN.out, rfl, hown.regs, grown_below hg hb1 (fun k hk => by cases hk)⟩
    · have hft' : f < t := by omega
      have qft : decide (t ≤ f) = false := by simp; omega
      go_enter Try.func24, Try.ntmps24
      go_wp2_with fail
      refine (HR1.out _ h).mono ?_
      rintro e w1 ⟨rfl, hb1⟩
      have h1 := h.later hb1
      clear HR1
      cases a with
      | none =>
        have hc0 := h.nil rfl
        have hl0 : L = [] := List.eq_nil_of_length_eq_zero (by have := h.le; omega)
        subst hl0
        subst hc0
        go_wp2
        go_loopw [7, 24] (fun s7 s24 wr => s7 = .slice none 0 0 ∧ s24 = .int .i64 0 ∧ Below w.heap.size w wr) (fun _ _ _ => 0)
        case atStart => exact ⟨rfl, rfl, hb1⟩
        case round =>
          obtain ⟨rfl, rfl, hb⟩ := hrel
          go_wp2
          go_ret
          exact ⟨none, 0, [], by rw [HC.out]; rfl, rfl, ⟨Nat.le_refl _, fun _ => rfl, fun j hj => by simp at hj⟩, hb⟩
      | some ad =>
        have HP : Hid (∀ j (hj : j < L.length), (L.take (j + 1)).flatMap (piece f t) = (L.take j).flatMap (piece f t) ++ piece f t L[j]) := fun j hj => flatMap_take L _ j hj
        have HL : Hid (∀ j, ((L.take j).flatMap (piece f t)).length ≤ 2 * L.length) := fun j => cut_len L f t j
        go_wp2
        go_loopw [7, 24] (fun s7 s24 wr => ∃ (j : Nat) (a' : Option Addr) (c' : Nat) (N : List Rg) (o : Option Nat), j ≤ L.length ∧ s24 = .int .i64 j ∧ s7 = .slice a' N.length c' ∧ N = (L.take j).flatMap (piece f t) ∧ OwnL wr w.heap.size o a' c' N ∧ Below w.heap.size w wr) (fun _ s24 _ => L.length - (intOf s24).toNat)
        case atStart => exact ⟨0, _, 0, [], none, by omega, rfl, rfl, rfl, OwnL.nil _ _ _, hb1⟩
        case round =>
          obtain ⟨j, a', c', N, o, hj, rfl, rfl, hN, hown, hb⟩ := hrel
          clear h1 hb1
          have hr := h.later hb
          by_cases hjl : j < L.length
          · obtain ⟨b, off, ea, c0, c1, c2, c3, c4, c5⟩ := hr.get hjl
            injection ea with ea
            subst ea
            have hs := HP.out j hjl
            have hl := HL.out j
            rw [← hN] at hs hl
            obtain ⟨x, hx⟩ : ∃ x, x = L[j] := ⟨_, rfl⟩
            rw [← hx] at hs c0 c1 c2 c3 c4 c5
            have HS : Hid ((L.take (j + 1)).flatMap (piece f t) = N ++ ((if x.f < f then [part x x.f (min x.t f)] else []) ++ (if t < x.t then [part x (max x.f t) x.t] else []))) := by
              show _ = _
              rw [hs]
              unfold piece
              rw [if_neg (show ¬ t ≤ f by omega)]
            have HLN : Hid (N.length ≤ 2 * L.length) := hl
            clear hs hl hx hN hr
            obtain ⟨w2, hw2, hr2, hB2, hb2⟩ := boxOn w wr x hb
            have hne : o ≠ some wr.heap.size := fun e => by have := (hown.lo _ e).2; omega
            have hown2 := hown.later hb2
            have hlo : Hid (∀ k, o = some k → w.heap.size ≤ k) := fun k hk => (hown.lo k hk).1
            obtain ⟨k0, k1, k2, k3, k4, k5⟩ := hr2.six
            have HB1 : Hid (N.length + ([x] : List Rg).length ≤ 1000000) := by have := HLN.out; show _ ≤ _; simp only [List.length_cons, List.length_nil]; omega
            by_cases hA : x.f < f
            · have qA : decide (x.f < f) = true := by simp; omega
              by_cases hm : x.t ≤ f
              · have hBt : ¬ t < x.t := by omega
                have qB : decide (t < x.t) = false := by simp; omega
                go_wp2_with fail
                rw [← hw2]
                refine (ppart x x.f x.t _).mono ?_
                rintro e w31 ⟨rfl, hb31⟩
                have hown31 := hown2.later hb31
                have hr31 := hr2.later hb31
                have hB31 := bel_trans hB2 hb31
                obtain ⟨y1, hy1⟩ : ∃ y, y = part x x.f x.t := ⟨_, rfl⟩
                rw [← hy1]
                have HY1 : Hid (y1 = part x x.f x.t) := hy1
                clear hy1
                have hB41 := bel_trans hB31 (below_alloc w31 (.cells #[.int .i64 y1.f, .int .i64 y1.t, .int .i64 y1.k, .int .i64 y1.fi, .int .i64 y1.ix, .bool y1.wr] 25))
                clear hb31
                go_wp2_with (at_builtin; refine wpList_append_regs rfl (.tmp 32) (.tmp 41) rfl w.heap.size o a' c' N (some ⟨w31.heap.size, 0, none⟩) 1 1 [y1] rfl (hown31.later (below_alloc _ _)) rfl rfl (one_regs (RowAt.new w31 #[.int .i64 y1.f, .int .i64 y1.t, .int .i64 y1.k, .int .i64 y1.fi, .int .i64 y1.ix, .bool y1.wr] 25)) HB1.out hB41.size ?_; rintro o1 a1 c1 N1 w51 HN1 hown51 hg1 hoo1; have hr51 := grown_row hg1 (hr31.later (below_alloc _ _)) hne; obtain ⟨l01, l11, l21, l31, l41, l51⟩ := hr51.six; have hr31b := hr31.later (below_alloc w31 (.cells #[.int .i64 y1.f, .int .i64 y1.t, .int .i64 y1.k, .int .i64 y1.fi, .int .i64 y1.ix, .bool y1.wr] 25)); clear hr31)
                have HF : Hid (N1 = (L.take (j + 1)).flatMap (piece f t)) := by show _ = _; rw [HN1.out, HS.out, HY1.out, if_pos (show x.f < f by omega), if_neg (show ¬ t < x.t by omega), Int.min_eq_left hm]; simp
                exact ⟨⟨j + 1, a1, c1, N1, o1, by omega, by go_num, rfl, HF.out, hown51, grown_below hg1 hB41 hlo.out⟩, by simp [intOf]; omega⟩
              · have hm2 : f < x.t := by omega
                by_cases hBt : t < x.t
                · have qB : decide (t < x.t) = true := by simp; omega
                  have HB2 : Hid (∀ M : List Rg, M = N ++ [part x x.f f] → M.length + ([x] : List Rg).length ≤ 1000000) := by rintro M rfl; have := HLN.out; simp only [List.length_append, List.length_cons, List.length_nil]; omega
                  go_wp2_with fail
                  rw [← hw2]
                  refine (ppart x x.f f _).mono ?_
                  rintro e w31 ⟨rfl, hb31⟩
                  have hown31 := hown2.later hb31
                  have hr31 := hr2.later hb31
                  have hB31 := bel_trans hB2 hb31
                  obtain ⟨y1, hy1⟩ : ∃ y, y = part x x.f f := ⟨_, rfl⟩
                  rw [← hy1]
                  have HY1 : Hid (y1 = part x x.f f) := hy1
                  clear hy1
                  have hB41 := bel_trans hB31 (below_alloc w31 (.cells #[.int .i64 y1.f, .int .i64 y1.t, .int .i64 y1.k, .int .i64 y1.fi, .int .i64 y1.ix, .bool y1.wr] 25))
                  clear hb31
                  go_wp2_with (at_builtin; refine wpList_append_regs rfl (.tmp 32) (.tmp 41) rfl w.heap.size o a' c' N (some ⟨w31.heap.size, 0, none⟩) 1 1 [y1] rfl (hown31.later (below_alloc _ _)) rfl rfl (one_regs (RowAt.new w31 #[.int .i64 y1.f, .int .i64 y1.t, .int .i64 y1.k, .int .i64 y1.fi, .int .i64 y1.ix, .bool y1.wr] 25)) HB1.out hB41.size ?_; rintro o1 a1 c1 N1 w51 HN1 hown51 hg1 hoo1; have hr51 := grown_row hg1 (hr31.later (below_alloc _ _)) hne; obtain ⟨l01, l11, l21, l31, l41, l51⟩ := hr51.six; have hr31b := hr31.later (below_alloc w31 (.cells #[.int .i64 y1.f, .int .i64 y1.t, .int .i64 y1.k, .int .i64 y1.fi, .int .i64 y1.ix, .bool y1.wr] 25)); clear hr31)
                  have hB51 := grown_below hg1 hB41 hlo.out
                  have hne2 : o1 ≠ some wr.heap.size := own_apart hoo1 (hr31b.lt) hne
                  have HB2 := HB2.out N1 (by rw [HN1.out, HY1.out])
                  go_wp2_with fail
                  refine (ppart x t x.t _).mono ?_
                  rintro e w32 ⟨rfl, hb32⟩
                  have hown32 := hown51.later hb32
                  have hr32 := hr51.later hb32
                  have hB32 := bel_trans hB51 hb32
                  obtain ⟨y2, hy2⟩ : ∃ y, y = part x t x.t := ⟨_, rfl⟩
                  rw [← hy2]
                  have HY2 : Hid (y2 = part x t x.t) := hy2
                  clear hy2
                  have hB42 := bel_trans hB32 (below_alloc w32 (.cells #[.int .i64 y2.f, .int .i64 y2.t, .int .i64 y2.k, .int .i64 y2.fi, .int .i64 y2.ix, .bool y2.wr] 25))
                  clear hb32
                  go_wp2_with (at_builtin; refine wpList_append_regs rfl (.tmp 47) (.tmp 56) rfl w.heap.size o1 a1 c1 N1 (some ⟨w32.heap.size, 0, none⟩) 1 1 [y2] rfl (hown32.later (below_alloc _ _)) rfl rfl (one_regs (RowAt.new w32 #[.int .i64 y2.f, .int .i64 y2.t, .int .i64 y2.k, .int .i64 y2.fi, .int .i64 y2.ix, .bool y2.wr] 25)) HB2 hB42.size ?_; rintro o2 a2 c2 N2 w52 HN2 hown52 hg2 hoo2; have hr52 := grown_row hg2 (hr32.later (below_alloc _ _)) hne2; obtain ⟨l02, l12, l22, l32, l42, l52⟩ := hr52.six; clear hr32)
                  have HF : Hid (N2 = (L.take (j + 1)).flatMap (piece f t)) := by show _ = _; rw [HN2.out, HN1.out, HS.out, HY1.out, HY2.out, if_pos (show x.f < f by omega), if_pos (show t < x.t by omega), Int.min_eq_right (by omega), Int.max_eq_right (by omega)]; simp
                  exact ⟨⟨j + 1, a2, c2, N2, o2, by omega, by go_num, rfl, HF.out, hown52, grown_below hg2 hB42 (fun k hk => (hown51.lo k hk).1)⟩, by simp [intOf]; omega⟩
                · have qB : decide (t < x.t) = false := by simp; omega
                  go_wp2_with fail
                  rw [← hw2]
                  refine (ppart x x.f f _).mono ?_
                  rintro e w31 ⟨rfl, hb31⟩
                  have hown31 := hown2.later hb31
                  have hr31 := hr2.later hb31
                  have hB31 := bel_trans hB2 hb31
                  obtain ⟨y1, hy1⟩ : ∃ y, y = part x x.f f := ⟨_, rfl⟩
                  rw [← hy1]
                  have HY1 : Hid (y1 = part x x.f f) := hy1
                  clear hy1
                  have hB41 := bel_trans hB31 (below_alloc w31 (.cells #[.int .i64 y1.f, .int .i64 y1.t, .int .i64 y1.k, .int .i64 y1.fi, .int .i64 y1.ix, .bool y1.wr] 25))
                  clear hb31
                  go_wp2_with (at_builtin; refine wpList_append_regs rfl (.tmp 32) (.tmp 41) rfl w.heap.size o a' c' N (some ⟨w31.heap.size, 0, none⟩) 1 1 [y1] rfl (hown31.later (below_alloc _ _)) rfl rfl (one_regs (RowAt.new w31 #[.int .i64 y1.f, .int .i64 y1.t, .int .i64 y1.k, .int .i64 y1.fi, .int .i64 y1.ix, .bool y1.wr] 25)) HB1.out hB41.size ?_; rintro o1 a1 c1 N1 w51 HN1 hown51 hg1 hoo1; have hr51 := grown_row hg1 (hr31.later (below_alloc _ _)) hne; obtain ⟨l01, l11, l21, l31, l41, l51⟩ := hr51.six; have hr31b := hr31.later (below_alloc w31 (.cells #[.int .i64 y1.f, .int .i64 y1.t, .int .i64 y1.k, .int .i64 y1.fi, .int .i64 y1.ix, .bool y1.wr] 25)); clear hr31)
                  have HF : Hid (N1 = (L.take (j + 1)).flatMap (piece f t)) := by show _ = _; rw [HN1.out, HS.out, HY1.out, if_pos (show x.f < f by omega), if_neg (show ¬ t < x.t by omega), Int.min_eq_right (by omega)]; simp
                  exact ⟨⟨j + 1, a1, c1, N1, o1, by omega, by go_num, rfl, HF.out, hown51, grown_below hg1 hB41 hlo.out⟩, by simp [intOf]; omega⟩
            · have qA : decide (x.f < f) = false := by simp; omega
              by_cases hBt : t < x.t
              · have qB : decide (t < x.t) = true := by simp; omega
                by_cases hm : x.f < t
                · have hm2 : x.f < t := hm
                  go_wp2_with fail
                  rw [← hw2]
                  refine (ppart x t x.t _).mono ?_
                  rintro e w31 ⟨rfl, hb31⟩
                  have hown31 := hown2.later hb31
                  have hr31 := hr2.later hb31
                  have hB31 := bel_trans hB2 hb31
                  obtain ⟨y1, hy1⟩ : ∃ y, y = part x t x.t := ⟨_, rfl⟩
                  rw [← hy1]
                  have HY1 : Hid (y1 = part x t x.t) := hy1
                  clear hy1
                  have hB41 := bel_trans hB31 (below_alloc w31 (.cells #[.int .i64 y1.f, .int .i64 y1.t, .int .i64 y1.k, .int .i64 y1.fi, .int .i64 y1.ix, .bool y1.wr] 25))
                  clear hb31
                  go_wp2_with (at_builtin; refine wpList_append_regs rfl (.tmp 47) (.tmp 56) rfl w.heap.size o a' c' N (some ⟨w31.heap.size, 0, none⟩) 1 1 [y1] rfl (hown31.later (below_alloc _ _)) rfl rfl (one_regs (RowAt.new w31 #[.int .i64 y1.f, .int .i64 y1.t, .int .i64 y1.k, .int .i64 y1.fi, .int .i64 y1.ix, .bool y1.wr] 25)) HB1.out hB41.size ?_; rintro o1 a1 c1 N1 w51 HN1 hown51 hg1 hoo1; have hr51 := grown_row hg1 (hr31.later (below_alloc _ _)) hne; obtain ⟨l01, l11, l21, l31, l41, l51⟩ := hr51.six; have hr31b := hr31.later (below_alloc w31 (.cells #[.int .i64 y1.f, .int .i64 y1.t, .int .i64 y1.k, .int .i64 y1.fi, .int .i64 y1.ix, .bool y1.wr] 25)); clear hr31)
                  have HF : Hid (N1 = (L.take (j + 1)).flatMap (piece f t)) := by show _ = _; rw [HN1.out, HS.out, HY1.out, if_neg (show ¬ x.f < f by omega), if_pos (show t < x.t by omega), Int.max_eq_right (by omega)]; simp
                  exact ⟨⟨j + 1, a1, c1, N1, o1, by omega, by go_num, rfl, HF.out, hown51, grown_below hg1 hB41 hlo.out⟩, by simp [intOf]; omega⟩
                · have hm2 : t ≤ x.f := by omega
                  go_wp2_with fail
                  rw [← hw2]
                  refine (ppart x x.f x.t _).mono ?_
                  rintro e w31 ⟨rfl, hb31⟩
                  have hown31 := hown2.later hb31
                  have hr31 := hr2.later hb31
                  have hB31 := bel_trans hB2 hb31
                  obtain ⟨y1, hy1⟩ : ∃ y, y = part x x.f x.t := ⟨_, rfl⟩
                  rw [← hy1]
                  have HY1 : Hid (y1 = part x x.f x.t) := hy1
                  clear hy1
                  have hB41 := bel_trans hB31 (below_alloc w31 (.cells #[.int .i64 y1.f, .int .i64 y1.t, .int .i64 y1.k, .int .i64 y1.fi, .int .i64 y1.ix, .bool y1.wr] 25))
                  clear hb31
                  go_wp2_with (at_builtin; refine wpList_append_regs rfl (.tmp 47) (.tmp 56) rfl w.heap.size o a' c' N (some ⟨w31.heap.size, 0, none⟩) 1 1 [y1] rfl (hown31.later (below_alloc _ _)) rfl rfl (one_regs (RowAt.new w31 #[.int .i64 y1.f, .int .i64 y1.t, .int .i64 y1.k, .int .i64 y1.fi, .int .i64 y1.ix, .bool y1.wr] 25)) HB1.out hB41.size ?_; rintro o1 a1 c1 N1 w51 HN1 hown51 hg1 hoo1; have hr51 := grown_row hg1 (hr31.later (below_alloc _ _)) hne; obtain ⟨l01, l11, l21, l31, l41, l51⟩ := hr51.six; have hr31b := hr31.later (below_alloc w31 (.cells #[.int .i64 y1.f, .int .i64 y1.t, .int .i64 y1.k, .int .i64 y1.fi, .int .i64 y1.ix, .bool y1.wr] 25)); clear hr31)
                  have HF : Hid (N1 = (L.take (j + 1)).flatMap (piece f t)) := by show _ = _; rw [HN1.out, HS.out, HY1.out, if_neg (show ¬ x.f < f by omega), if_pos (show t < x.t by omega), Int.max_eq_left (by omega)]; simp
                  exact ⟨⟨j + 1, a1, c1, N1, o1, by omega, by go_num, rfl, HF.out, hown51, grown_below hg1 hB41 hlo.out⟩, by simp [intOf]; omega⟩
              · have HF : Hid ((L.take (j + 1)).flatMap (piece f t) = N) := by show _ = _; rw [HS.out, if_neg (show ¬ x.f < f by omega), if_neg (show ¬ t < x.t by omega)]; simp
                have qB : decide (t < x.t) = false := by simp; omega
                clear HS
                go_wp2
                rw [← hw2]
                exact ⟨⟨j + 1, a', c', N, o, by omega, by go_num, rfl, HF.out.symm, hown2, hB2⟩, by simp [intOf]; omega⟩
          · have HF : Hid (N = cutR L f t) := by show _ = _; rw [hN, HC.out, List.take_of_length_le (by omega)]; rfl
            clear hN hr
            go_wp2
            go_ret
            exact ⟨a', c', N, HF.out, rfl, hown.regs, hb⟩
end Go.Proofs.Ytagobeoabkbhaaa
