/-
  The law ShadowLogs walked.
-/
import Derived.Test.YtgnobaenlcbfjaaBoth
import Derived.Deep.RegionWith
import Derived.Deep.RegionHeld3
import Derived.BigQuiet
namespace Go.Proofs.Ytgnobaenlcbfjaa
open Go.RowKit Go.ChangeShapes Go.WideShapes Go.ChangeAt

theorem hid {p : Prop} (h : p) : Hid p := h
set_option maxRecDepth 100000 in
set_option maxHeartbeats 8000000 in
theorem logs_out (a : Option Addr) (cap n : Nat) (w : World) (h : decide ((100 : Int) < (n : Int)) = true) :
    Calls Try.prog 4 #[.slice a n cap] w fun e w' => e = .returned (.bool true) ∧ Below w.heap.size w w' := by
  go_enter Try.func4, Try.ntmps4
  go_wp2_with (go_at_call 8; refine (works_any _).mono ?_; rintro e w1 ⟨rfl, hb⟩)
  go_ret
  exact ⟨rfl, hb⟩

/-- What holds behind i acts. -/
structure At2 (w wr : World) (P : Pl) (i : Nat) (f k : Int → Int) (v : Value) (M : List Nat) : Prop where
  bo : Bo w wr P f k f k v M
  uf : Upto f i
  uk : Upto k i
  len : M.length ≤ i
  lt : ∀ j (h : j < M.length), M[j] < 18446744073709551616

set_option maxRecDepth 100000 in
set_option maxHeartbeats 8000000 in
theorem logs_in (a : Option Addr) (cap : Nat) (l : List Ac) (w : World) (hc : ActsAt w a l) (hl : l.length ≤ 100) :
    Calls Try.prog 4 #[.slice a l.length cap] w fun e w' => e = .returned (.bool true) ∧ Below w.heap.size w w' := by
  have d1 : decide ((100 : Int) < (l.length : Int)) = false := by simp; omega
  have HC : Hid (ActsAt w a l) := hc
  clear hc
  go_enter Try.func4, Try.ntmps4
  go_wp2_with fail
  refine (works_any _).mono ?_
  rintro e w1 ⟨rfl, hb1⟩
  go_wp2_with fail
  refine (newL hb1).mono ?_
  rintro e w2 ⟨c, rfl, h2, -⟩
  clear hb1 d1
  go_wp2_with fail
  refine (newB h2).mono ?_
  rintro e w3 ⟨P, rfl, rfl, h3⟩
  clear h2
  go_wp2_with fail
  go_loopw [6, 7, 8, 9] (fun s6 s7 _ _ wr => ∃ (i : Nat) (ad : Option Addr) (cp : Nat) (M : List Nat) (f k : Int → Int), i ≤ l.length ∧ s7 = .int .i64 i ∧ s6 = .slice ad M.length cp ∧ At2 w wr P i f k s6 M) (fun _ s7 _ _ _ => l.length - (intOf s7).toNat)
  case atStart => exact ⟨0, none, 0, [], _, _, by omega, rfl, rfl, h3, upto_zero, upto_zero, Nat.le_refl _, fun j h => absurd h (Nat.not_lt_zero j)⟩
  case round =>
    clear h3
    obtain ⟨i, ad, cp, M, f, k, hi, rfl, rfl, hA⟩ := hrel
    by_cases hlt : i < l.length
    · have d0 : decide ((i : Int) < (l.length : Int)) = true := by simp; omega
      obtain ⟨b, off, rfl, k0, k1, k2, k3, k4, hw⟩ := (HC.out.below hA.bo.bel).at hlt
      obtain ⟨r, hr⟩ : ∃ r, r = l[i] := ⟨_, rfl⟩
      have HAT : Hid (∀ W, Below w.heap.size w W → W.cell? ⟨b, off + i * 5 + 1, none⟩ = some (.int .i64 r.g) ∧ W.cell? ⟨b, off + i * 5 + 2, none⟩ = some (.int .i64 r.t) ∧ W.cell? ⟨b, off + i * 5 + 4, none⟩ = some (.int .i64 r.r)) := by
        intro W hW
        obtain ⟨b', off', e, -, g1, g2, -, g4, -⟩ := (HC.out.below hW).at hlt
        have e2 := Option.some.inj e
        injection e2 with e3 e4
        subst e3
        subst e4
        rw [← hr] at g1 g2 g4
        exact ⟨g1, g2, g4⟩
      rw [← hr] at k0 k1 k2 k3 k4 hw
      clear hr
      have hml := hA.len
      have HA : Hid (At2 w wr P i f k (.slice ad M.length cp) M) := hA
      have hul : i ≤ 1000000 := by omega
      cases ho : r.o with
      | false =>
        rw [ho] at k0
        clear ho
        have C1 := hid (hA.bo.wentA hA.uf hul r.g)
        have C2 : Hid (∀ W, Bo w W P (up f r.g) k f k (.slice ad M.length cp) M → Calls Try.prog 19 #[.pointer (some ⟨P.d, 0, none⟩), .int .i64 r.g] W fun e w' => e = .returned (.int .u64 (wentX f r.g)) ∧ Bo w w' P (up f r.g) k (up f r.g) k (.slice ad M.length cp) M) :=
          fun W h => h.wentB hA.uf hul r.g
        have HX : Hid (wentX f r.g < 18446744073709551616) := by
          have := wentX_lt f r.g
          show _ < _
          omega
        obtain ⟨X, hX⟩ : ∃ X, X = wentX f r.g := ⟨_, rfl⟩
        rw [← hX] at C1 C2 HX
        have z0 : ((X : Int) != (X : Int)) = false := by simp
        clear hX hA k2 k3 k4
        go_wp2_with fail
        refine C1.out.mono ?_
        rintro e w4 ⟨rfl, h4⟩
        have k1' := (HAT.out w4 h4.bel).1
        have H4 := hid h4
        clear h4 C1 k0 k1
        go_wp2_with fail
        refine (C2.out _ H4.out).mono ?_
        rintro e w5 ⟨rfl, h5⟩
        have H5 := hid h5
        clear h5 C2 H4 k1'
        go_wp2_with (at_builtin; refine wpList_append_md rfl (.tmp 48) (.tmp 50) rfl P.B _ M X w5.heap.size rfl (H5.out.md.later (below_alloc _ _)) rfl (by simp) (by omega) (by have := H5.out.hi; simp; omega) ?_; intro a' c' w6 hm6 hg6)
        have h6 := (H5.out.later (below_alloc w5 (.cells #[.int .u64 X] 22))).grown hg6 hm6
        refine ⟨⟨i + 1, a', c', M ++ [X], up f r.g, k, by omega, by go_num, by simp, h6, HA.out.uf.up _, HA.out.uk.more (Nat.le_succ _), by simp; omega, fun j hj => ?_⟩, by simp [intOf]; omega⟩
        by_cases hjm : j < M.length
        · rw [List.getElem_append_left hjm]; exact HA.out.lt j hjm
        · rw [List.getElem_append_right (by omega)]
          simp
          exact HX.out
      | true =>
        rw [ho] at k0
        clear ho
        have C1 : Hid (∀ x : Nat, x < 18446744073709551616 → ∀ n, Calls Try.prog 20 #[.pointer (some ⟨P.c, 0, none⟩), .int .u64 x, .int .i64 r.g, .int .i64 r.r] (wr.drewN n) fun e w' => e = .returned (.bool (cameB f x r.r)) ∧ Bo w w' P f (cameF f k x r.g r.r) f k (.slice ad M.length cp) M) :=
          fun x hx n => (hA.bo.drewN n).cameA hA.uf hA.uk hul x r.g r.r hx
        have C2 : Hid (∀ x : Nat, x < 18446744073709551616 → ∀ W, Bo w W P f (cameF f k x r.g r.r) f k (.slice ad M.length cp) M → Calls Try.prog 21 #[.pointer (some ⟨P.d, 0, none⟩), .int .u64 x, .int .i64 r.g, .int .i64 r.r] W fun e w' => e = .returned (.bool (cameB f x r.r)) ∧ Bo w w' P f (cameF f k x r.g r.r) f (cameF f k x r.g r.r) (.slice ad M.length cp) M) :=
          fun x hx W h => h.cameB' hA.uf hA.uk hul x r.g r.r hx
        by_cases ht : 0 ≤ r.t
        · obtain ⟨n, hn⟩ := Int.eq_ofNat_of_zero_le ht
          rw [hn] at k2
          have t0 : decide ((0 : Int) ≤ (n : Int)) = true := by simp
          by_cases htl : n < M.length
          · have t1 : decide ((n : Int) < (M.length : Int)) = true := by simp; omega
            obtain ⟨q, rfl, kq⟩ := hA.bo.md.at htl
            obtain ⟨X, hX⟩ : ∃ X, X = M[n] := ⟨_, rfl⟩
            have hxl : X < 18446744073709551616 := by rw [hX]; exact hA.lt n htl
            rw [← hX] at kq
            have D1 := hid (C1.out X hxl)
            have D2 := hid (C2.out X hxl)
            obtain ⟨b0, hb0⟩ : ∃ b0, b0 = cameB f X r.r := ⟨_, rfl⟩
            rw [← hb0] at D1 D2
            have z0 : (b0 != b0) = false := by simp
            clear C1 C2 hX hb0 hxl hA hw ht hn
            go_wp2_with fail
            go_region_held3 (fun W => W.cell? ⟨b, off + i * 5 + 1, none⟩ = some (.int .i64 r.g) ∧ W.cell? ⟨b, off + i * 5 + 4, none⟩ = some (.int .i64 r.r)) (go_keep)
              (first | (go_at_call 20; refine (D1.out 1).mono ?_; rintro e w4 ⟨rfl, h4⟩; obtain ⟨m1, m2, m4⟩ := HAT.out w4 h4.bel) | (go_at_call 21; refine (D2.out _ h4).mono ?_; rintro e w5 ⟨rfl, h5⟩; obtain ⟨n1, n2, n4⟩ := HAT.out w5 h5.bel))
            all_goals
              go_wp2_with fail
              refine ⟨⟨i + 1, _, cp, M, f, _, by omega, by go_num, rfl, h5, HA.out.uf.more (Nat.le_succ _), HA.out.uk.came _ _ _ _, by omega, HA.out.lt⟩, by simp [intOf]; omega⟩
          · have t1 : decide ((n : Int) < (M.length : Int)) = false := by simp; omega
            obtain ⟨X, hX⟩ : ∃ X, X = r.x := ⟨_, rfl⟩
            have hxl : X < 18446744073709551616 := by rw [hX]; exact hw.x
            rw [← hX] at k3
            have D1 := hid (C1.out X hxl)
            have D2 := hid (C2.out X hxl)
            obtain ⟨b0, hb0⟩ : ∃ b0, b0 = cameB f X r.r := ⟨_, rfl⟩
            rw [← hb0] at D1 D2
            have z0 : (b0 != b0) = false := by simp
            clear C1 C2 hX hb0 hxl hA hw ht hn
            go_wp2_with fail
            go_region_held3 (fun W => W.cell? ⟨b, off + i * 5 + 1, none⟩ = some (.int .i64 r.g) ∧ W.cell? ⟨b, off + i * 5 + 4, none⟩ = some (.int .i64 r.r)) (go_keep)
              (first | (go_at_call 20; refine (D1.out 1).mono ?_; rintro e w4 ⟨rfl, h4⟩; obtain ⟨m1, m2, m4⟩ := HAT.out w4 h4.bel) | (go_at_call 21; refine (D2.out _ h4).mono ?_; rintro e w5 ⟨rfl, h5⟩; obtain ⟨n1, n2, n4⟩ := HAT.out w5 h5.bel))
            all_goals
              go_wp2_with fail
              refine ⟨⟨i + 1, ad, cp, M, f, _, by omega, by go_num, rfl, h5, HA.out.uf.more (Nat.le_succ _), HA.out.uk.came _ _ _ _, by omega, HA.out.lt⟩, by simp [intOf]; omega⟩
        · have t0 : decide (0 ≤ r.t) = false := by simp; omega
          obtain ⟨X, hX⟩ : ∃ X, X = r.x := ⟨_, rfl⟩
          have hxl : X < 18446744073709551616 := by rw [hX]; exact hw.x
          rw [← hX] at k3
          have D1 := hid (C1.out X hxl)
          have D2 := hid (C2.out X hxl)
          obtain ⟨b0, hb0⟩ : ∃ b0, b0 = cameB f X r.r := ⟨_, rfl⟩
          rw [← hb0] at D1 D2
          have z0 : (b0 != b0) = false := by simp
          clear C1 C2 hX hb0 hxl hA hw ht
          go_wp2_with fail
          go_region_held3 (fun W => W.cell? ⟨b, off + i * 5 + 1, none⟩ = some (.int .i64 r.g) ∧ W.cell? ⟨b, off + i * 5 + 4, none⟩ = some (.int .i64 r.r)) (go_keep)
            (first | (go_at_call 20; refine (D1.out 1).mono ?_; rintro e w4 ⟨rfl, h4⟩; obtain ⟨m1, m2, m4⟩ := HAT.out w4 h4.bel) | (go_at_call 21; refine (D2.out _ h4).mono ?_; rintro e w5 ⟨rfl, h5⟩; obtain ⟨n1, n2, n4⟩ := HAT.out w5 h5.bel))
          all_goals
            go_wp2_with fail
            refine ⟨⟨i + 1, ad, cp, M, f, _, by omega, by go_num, rfl, h5, HA.out.uf.more (Nat.le_succ _), HA.out.uk.came _ _ _ _, by omega, HA.out.lt⟩, by simp [intOf]; omega⟩
    · obtain rfl : i = l.length := by omega
      have d0 : decide ((l.length : Int) < (l.length : Int)) = false := by simp
      have h4 := hA.bo
      clear hA hlt HC
      go_wp2_with fail
      go_loopw [10] (fun s10 wr => ∃ j : Nat, j ≤ 64 ∧ s10 = .int .i64 j ∧ Bo w wr P f k f k (.slice ad M.length cp) M) (fun s10 _ => 64 - (intOf s10).toNat)
      case atStart => exact ⟨0, by omega, rfl, h4⟩
      case round =>
        clear h4
        obtain ⟨j, hj, rfl, hB⟩ := hrel
        by_cases hjl : j < 64
        · have d5 : decide ((j : Int) < 64) = true := by simp; omega
          have CK : Hid (∀ m, Calls Try.prog 22 #[.pointer (some ⟨P.c, 0, none⟩), .int .i64 j] (wr.drewN m) fun e w' => e = .returned (.int .i64 (f j)) ∧ w' = wr.drewN m) := by
            intro m
            have := clockL (hB.drewN m).lg j
            rw [ofG_in _ (by omega) (by omega)] at this
            exact this
          have BK : Hid (∀ m, Calls Try.prog 23 #[.pointer (some ⟨P.c, 0, none⟩), .int .i64 j] (wr.drewN m) fun e w' => e = .returned (.int .i64 (k j)) ∧ w' = wr.drewN m) := by
            intro m
            have := backL (hB.drewN m).lg j
            rw [ofG_in _ (by omega) (by omega)] at this
            exact this
          obtain ⟨c0, c1⟩ := hB.rf.heads
          have c2 : wr.cell? ⟨P.p, j, none⟩ = some (.int .i64 (f j)) := by rw [hB.rf.cf.cell]; exact ic_at f hjl
          have c3 : wr.cell? ⟨P.q, j, none⟩ = some (.int .i64 (k j)) := by rw [hB.rf.ck.cell]; exact ic_at k hjl
          have HB : Hid (∀ m, Bo w (wr.drewN m) P f k f k (.slice ad M.length cp) M) := fun m => hB.drewN m
          obtain ⟨F, hF⟩ : ∃ F, F = f j := ⟨_, rfl⟩
          obtain ⟨K, hK⟩ : ∃ K, K = k j := ⟨_, rfl⟩
          rw [← hF] at CK c2
          rw [← hK] at BK c3
          have z1 : (F != F) = false := by simp
          have z2 : (K != K) = false := by simp
          clear hF hK hB
          go_wp2_with fail
          go_quiet (first | (go_at_call 22; exact (CK.out _).mono fun e w' h => ⟨h.1, _, h.2⟩) | (go_at_call 23; exact (BK.out _).mono fun e w' h => ⟨h.1, _, h.2⟩))
          go_wp2_with fail
          refine ⟨⟨j + 1, by omega, by go_num, HB.out _⟩, by simp [intOf]; omega⟩
        · obtain rfl : j = 64 := by omega
          have d5 : decide (((64 : Nat) : Int) < 64) = false := by simp
          have HBl := hid hB.bel
          have G1 := clockL hB.lg 64
          have G2 := clockL hB.lg (-1)
          have G3 := backL hB.lg 64
          rw [ofG_no _ (by omega)] at G1 G2 G3
          have G1 := hid G1
          have G2 := hid G2
          have G3 := hid G3
          clear hB
          go_wp2_with fail
          refine G1.out.mono ?_
          rintro e w6 ⟨rfl, rfl⟩
          go_wp2_with fail
          refine G2.out.mono ?_
          rintro e w7 ⟨rfl, rfl⟩
          go_wp2_with fail
          refine G3.out.mono ?_
          rintro e w8 ⟨rfl, rfl⟩
          clear G1 G2 G3
          go_wp2_with fail
          go_ret
          exact ⟨rfl, HBl.out⟩

theorem logs_walk (a : Option Addr) (cap : Nat) (l : List Ac) (w : World) (hc : ActsAt w a l) :
    Calls Try.prog 4 #[.slice a l.length cap] w fun e w' => e = .returned (.bool true) ∧ Below w.heap.size w w' := by
  by_cases h : l.length ≤ 100
  · exact logs_in a cap l w hc h
  · exact logs_out a cap l.length w (by simp only [decide_eq_true_eq]; omega)
end Go.Proofs.Ytgnobaenlcbfjaa
