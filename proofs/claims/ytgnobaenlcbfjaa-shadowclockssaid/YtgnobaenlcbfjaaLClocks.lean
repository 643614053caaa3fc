/-
  The law ShadowClocks walked.
-/
import Derived.Test.YtgnobaenlcbfjaaOpen
import Derived.BigQuiet
namespace Go.Proofs.Ytgnobaenlcbfjaa
open Go.RowKit Go.ChangeShapes Go.WideShapes Go.ChangeAt

set_option maxRecDepth 100000 in
set_option maxHeartbeats 8000000 in
theorem clocks_out (a : Option Addr) (cap n : Nat) (g : Int) (w : World)
    (h : decide ((100 : Int) < (n : Int)) = true ∨ (decide ((100 : Int) < (n : Int)) = false ∧ decide (g < 0) = true) ∨ (decide ((100 : Int) < (n : Int)) = false ∧ decide (g < 0) = false ∧ decide (63 < g) = true)) :
    Calls Try.prog 6 #[.slice a n cap, .int .i64 g] w fun e w' => e = .returned (.bool true) ∧ Below w.heap.size w w' := by
  rcases h with q1 | ⟨q1, q2⟩ | ⟨q1, q2, q3⟩
  all_goals
    go_enter Try.func6, Try.ntmps6
    go_wp2_with (go_at_call 8; refine (works_any _).mono ?_; rintro e w1 ⟨rfl, hb⟩)
    go_ret
    exact ⟨rfl, hb⟩

/-- The clocks behind the first i that went. -/
def clk (l : List Int) (i : Nat) : Int → Int := (l.take i).foldl up (fun _ => 0)
theorem clk_zero (l : List Int) : clk l 0 = fun _ => 0 := rfl
theorem clk_succ (l : List Int) (i : Nat) (h : i < l.length) : clk l (i + 1) = up (clk l i) (l.getD i 0) := by
  have e : l.getD i 0 = l[i] := by simp [h]
  rw [e]
  unfold clk
  rw [List.take_succ_eq_append_getElem h, List.foldl_append]
  rfl
theorem clk_upto (l : List Int) (i : Nat) (hi : i ≤ l.length) : Upto (clk l i) i := by
  induction i with
  | zero => exact upto_zero
  | succ i ih => rw [clk_succ l i (by omega)]; exact (ih (by omega)).up _

/-- What holds in the first loop behind i. -/
structure At1 (w wr : World) (c B : Nat) (l : List Int) (g : Int) (i : Nat) (v : Value) (M : List Nat) : Prop where
  lg : Lg w wr c (clk l i) (fun _ => 0)
  lo : w.heap.size ≤ B
  hi : B ≤ wr.heap.size
  md : Md B wr v M
  ok : MadeOk g M (clk l i g)
  len : M.length ≤ i

set_option maxRecDepth 100000 in
set_option maxHeartbeats 8000000 in
theorem clocks_in (a : Option Addr) (cap : Nat) (l : List Int) (g : Int) (w : World) (hc : IntsAt w a l) (hl : l.length ≤ 100) (g0 : 0 ≤ g) (g1 : g ≤ 63) :
    Calls Try.prog 6 #[.slice a l.length cap, .int .i64 g] w fun e w' => e = .returned (.bool true) ∧ Below w.heap.size w w' := by
  have d1 : decide ((100 : Int) < (l.length : Int)) = false := by simp; omega
  have d2 : decide (g < 0) = false := by simp; omega
  have d3 : decide (63 < g) = false := by simp; omega
  have HC : Hid (IntsAt w a l) := hc
  clear hc
  go_enter Try.func6, Try.ntmps6
  go_wp2_with fail
  refine (works_any _).mono ?_
  rintro e w1 ⟨rfl, hb1⟩
  go_wp2_with fail
  refine (newL hb1).mono ?_
  rintro e w2 ⟨c, rfl, h2, hb2⟩
  clear hb1 d1 hb2
  go_wp2_with fail
  go_loopw [7, 8, 9] (fun s7 s8 _ wr => ∃ (i : Nat) (ad : Option Addr) (cp : Nat) (M : List Nat), i ≤ l.length ∧ s8 = .int .i64 i ∧ s7 = .slice ad M.length cp ∧ At1 w wr c w2.heap.size l g i s7 M) (fun _ s8 _ _ => l.length - (intOf s8).toNat)
  case atStart => exact ⟨0, none, 0, [], by omega, rfl, rfl, h2, h2.bel.size, Nat.le_refl _, Md.nil _ _, made_nil g, Nat.le_refl _⟩
  case round =>
    obtain ⟨i, ad, cp, M, hi, rfl, rfl, hA⟩ := hrel
    by_cases hlt : i < l.length
    · have d0 : decide ((i : Int) < (l.length : Int)) = true := by simp; omega
      obtain ⟨b, off, rfl, k0⟩ := (HC.out.below hA.lg.bel) i hlt
      have hk := clk_succ l i hlt
      have hM := made_step hA.ok g0 g1 (l.getD i 0)
      rw [← hk] at hM
      have C := wentL hA.lg (clk_upto l i (by omega)) (by omega) (l.getD i 0)
      rw [← hk] at C
      obtain ⟨j, hj⟩ : ∃ j, j = l.getD i 0 := ⟨_, rfl⟩
      rw [← hj] at k0 hM C
      obtain ⟨X, hX⟩ : ∃ X, X = wentX (clk l i) j := ⟨_, rfl⟩
      rw [← hX] at hM C
      have HM : Hid (MadeOk g (if j = g then M ++ [X] else M) (clk l (i + 1) g)) := hM
      have HC1 : Hid (Calls Try.prog 18 #[.pointer (some ⟨c, 0, none⟩), .int .i64 j] wr fun e w' => e = .returned (.int .u64 X) ∧ Lg w w' c (clk l (i + 1)) (fun _ => 0) ∧ Apart c wr w') := C
      have HA : Hid (At1 w wr c w2.heap.size l g i (.slice ad M.length cp) M) := hA
      have hml := hA.len
      clear hM C hA hX hj hk h2
      go_wp2_with fail
      refine HC1.out.mono ?_
      rintro e w3 ⟨rfl, h3, ha3⟩
      have k3 : w3.cell? ⟨b, off + i, none⟩ = some (.int .i64 j) := by
        obtain ⟨b', off', e', h'⟩ := (HC.out.below h3.bel) i hlt
        have e2 := Option.some.inj e'
        injection e2 with e3 e4
        subst e3
        subst e4
        rw [h']
        obtain ⟨b'', off'', e'', h''⟩ := (HC.out.below HA.out.lg.bel) i hlt
        have e2 := Option.some.inj e''
        injection e2 with e3 e4
        subst e3
        subst e4
        rw [h''] at k0
        exact k0
      have HMd : Hid (Md w2.heap.size w3 (.slice ad M.length cp) M) := HA.out.md.apart HA.out.lg.is (by decide) ha3
      have HS : Hid (w2.heap.size ≤ w3.heap.size) := Nat.le_trans HA.out.hi ha3.size
      have HL : Hid (w.heap.size ≤ w2.heap.size) := HA.out.lo
      have HG : Hid (Lg w w3 c (clk l (i + 1)) (fun _ => 0)) := h3
      clear HA HC1 ha3 h3 k0
      by_cases he : j = g
      · have d4 : (j == g) = true := by simpa using he
        have HM' : Hid (MadeOk g (M ++ [X]) (clk l (i + 1) g)) := by
          have := HM.out
          rwa [if_pos he] at this
        clear HM he
        go_wp2_with (at_builtin; refine wpList_append_md rfl (.tmp 48) (.tmp 50) rfl w2.heap.size _ M X w3.heap.size rfl (HMd.out.later (below_alloc _ _)) rfl (by simp) (by omega) (by have := HS.out; simp; omega) ?_; intro a' c' w5 hm5 hg5)
        have HB : Hid (Below w3.heap.size w3 (w3.alloc (.cells #[.int .u64 X] 22))) := below_alloc _ _
        have hG4 := (HG.out.later HB.out).grown (HMd.out.later HB.out) HL.out (Nat.le_trans HS.out HB.out.size) hg5
        refine ⟨⟨i + 1, a', c', M ++ [X], by omega, by go_num, by simp, hG4, HL.out, Nat.le_trans HS.out (Nat.le_trans HB.out.size hg5.size), hm5, HM'.out, by simp; omega⟩, by simp [intOf]; omega⟩
      · have d4 : (j == g) = false := by simpa using he
        have HM' : Hid (MadeOk g M (clk l (i + 1) g)) := by
          have := HM.out
          rwa [if_neg he] at this
        clear HM he
        go_wp2_with fail
        refine ⟨⟨i + 1, ad, cp, M, by omega, by go_num, rfl, HG.out, HL.out, HS.out, HMd.out, HM'.out, by omega⟩, by simp [intOf]; omega⟩
    · obtain rfl : i = l.length := by omega
      have d0 : decide ((l.length : Int) < (l.length : Int)) = false := by simp
      have HA : Hid (At1 w wr c w2.heap.size l g l.length (.slice ad M.length cp) M) := hA
      obtain ⟨F, hF⟩ : ∃ F, F = clk l l.length := ⟨_, rfl⟩
      have hof : ofG F g = (M.length : Int) := by rw [ofG_in _ g0 g1, hF]; exact hA.ok.1
      have hlF : Lg w wr c F (fun _ => 0) := by rw [hF]; exact hA.lg
      have hmF := hA.md
      have HCk : Hid (∀ wv, Lg w wv c F (fun _ => 0) → Calls Try.prog 22 #[.pointer (some ⟨c, 0, none⟩), .int .i64 g] wv fun e w' => e = .returned (.int .i64 (M.length : Int)) ∧ w' = wv) := by
        intro wv h
        have := clockL h g
        rw [hof] at this
        exact this
      have HLk : Hid (∀ j (hj : j < M.length), isS M[j] = true ∧ gS M[j] = g ∧ cS M[j] = j ∧ dS M[j] M.length = M.length - j) := by
        intro j hj
        have h1 := made_look hA.ok g0 g1 (by have := hA.len; omega) j hj
        rw [hA.ok.1] at h1
        exact h1
      have HLt : Hid (∀ j (hj : j < M.length), M[j] < 18446744073709551616) := by
        intro j hj
        rw [hA.ok.2 j hj]
        have := mkS_lt g j
        omega
      have hml := hA.len
      clear hA h2 hof hF HA
      go_wp2_with fail
      refine (HCk.out wr hlF).mono ?_
      rintro e w3 ⟨rfl, rfl⟩
      have HRd : Hid (Lg w w3 c F (fun _ => 0) ∧ Md w2.heap.size w3 (.slice ad M.length cp) M) := ⟨hlF, hmF⟩
      clear hlF hmF
      go_wp2_with fail
      go_loopw [10, 11, 12, 13] (fun s10 _ _ _ wv => ∃ j : Nat, j ≤ M.length ∧ s10 = .int .i64 j ∧ Lg w wv c F (fun _ => 0) ∧ Md w2.heap.size wv (.slice ad M.length cp) M) (fun s10 _ _ _ _ => M.length - (intOf s10).toNat)
      case atStart => exact ⟨0, by omega, rfl, HRd.out⟩
      case round =>
        clear HRd
        obtain ⟨j, hj, rfl, hL, hM⟩ := hrel
        by_cases hjl : j < M.length
        · have d5 : decide ((j : Int) < (M.length : Int)) = true := by simp; omega
          have HRd : Hid (∀ m, Lg w (wr.drewN m) c F (fun _ => 0) ∧ Md w2.heap.size (wr.drewN m) (.slice ad M.length cp) M) := fun m => ⟨hL.drewN m, hM.drewN m⟩
          have CK : Hid (∀ m, Calls Try.prog 22 #[.pointer (some ⟨c, 0, none⟩), .int .i64 g] (wr.drewN m) fun e w' => e = .returned (.int .i64 (M.length : Int)) ∧ w' = wr.drewN m) := fun m => HCk.out _ (hL.drewN m)
          obtain ⟨q, rfl, kq⟩ := hM.at hjl
          obtain ⟨l1, l2, l3, l4⟩ := HLk.out j hjl
          have hlt := HLt.out j hjl
          have CL := plook M[j] wr hlt
          rw [l1, l2, l3] at CL
          have CD : Hid (∀ m, Calls Try.prog 14 #[.int .u64 (M[j] : Int), .int .i64 (M.length : Int)] (wr.drewN m) fun e w' => e = .returned (.int .i64 ((M.length : Int) - j)) ∧ w' = wr.drewN m) := by
            intro m
            have := pdist M[j] M.length (wr.drewN m) hlt (by omega)
            rw [l4] at this
            exact this
          obtain ⟨X, hX⟩ : ∃ X, X = M[j] := ⟨_, rfl⟩
          rw [← hX] at kq CL CD
          clear l1 l2 l3 l4 hlt hX HLk HLt hL hM HCk
          go_wp2_with fail
          refine CL.mono ?_
          rintro e w4 ⟨rfl, rfl⟩
          clear CL
          go_wp2_with fail
          go_quiet (first | (go_at_call 22; exact (CK.out _).mono fun e w' h => ⟨h.1, _, h.2⟩) | (go_at_call 14; exact (CD.out _).mono fun e w' h => ⟨h.1, _, h.2⟩))
          go_wp2_with fail
          refine ⟨⟨j + 1, by omega, by go_num, HRd.out _⟩, by simp [intOf]; omega⟩
        · obtain rfl : j = M.length := by omega
          have d5 : decide ((M.length : Int) < (M.length : Int)) = false := by simp
          have HB : Hid (Below w.heap.size w wr) := hL.bel
          clear HLk HLt hL hM HCk
          go_wp2_with fail
          go_ret
          exact ⟨rfl, HB.out⟩

theorem clocks_walk (a : Option Addr) (cap : Nat) (l : List Int) (g : Int) (w : World) (hc : IntsAt w a l) :
    Calls Try.prog 6 #[.slice a l.length cap, .int .i64 g] w fun e w' => e = .returned (.bool true) ∧ Below w.heap.size w w' := by
  by_cases h : l.length ≤ 100 ∧ 0 ≤ g ∧ g ≤ 63
  · exact clocks_in a cap l g w hc h.1 h.2.1 h.2.2
  · exact clocks_out a cap l.length g w (by simp only [decide_eq_true_eq, decide_eq_false_iff_not]; omega)
end Go.Proofs.Ytgnobaenlcbfjaa
