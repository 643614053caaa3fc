/-
  The contracts of change, Age and Move.
-/
import Derived.Test.YtfmgmelgfnppkaaP5
namespace Go.Proofs.Ytfmgmelgfnppkaa
open Go.RowKit

section
variable {w w' : World} {m r : Nat} {L : List En} {lf : Int → Bool} {cnt : Nat}
theorem Rg.drewN (h : Rg w m r L lf cnt) (n : Nat) : Rg (w.drewN n) m r L lf cnt := h.below ⟨rfl, rfl, rfl, Nat.le_refl _, fun _ _ => rfl⟩
theorem apart_grown {p : Nat} {a b c : World} (h : Apart p a b) (hg : b.grownBy c (some r)) (hr : a.heap.size ≤ r) : Apart p a c :=
  ⟨hg.os.trans h.os, hg.tape.trans h.tape, hg.output.trans h.output, Nat.le_trans h.size hg.size, fun k hk hn => (hg.block k (Nat.lt_of_lt_of_le hk h.size) (by intro e; injection e with e; omega)).trans (h.block k hk hn)⟩
theorem Rg.putBut (h : Rg w m r L lf cnt) {L' : List En} {b : Nat} (hb : But b w w') (hm : m ≠ b) (hr : r ≠ b) (he : L' = L) : Rg w' m r L' lf cnt :=
  he ▸ h.kept (row := some b) ⟨hb.os, hb.tape, hb.output, Nat.le_of_eq hb.size.symm, fun k _ hn => hb.block k (fun e => hn (by rw [e]))⟩ (by simpa using hm) (by simpa using hr)
end

set_option maxHeartbeats 4000000 in
theorem pchange (t m : Nat) (L : List En) (g : Int) (ng na : Int → Int) (F : Nat) (cb : List Value) (w : World) (h : LsIs w t m L) (hL : L.length < 1000000)
    (hF : F = 38 ∧ cb = [] ∨ ∃ bx, F = 40 ∧ cb = [.pointer (some ⟨bx, 0, none⟩)])
    (hN : ∀ W, Apart m w W → ∀ xi xg xa, (⟨xi, xg, xa⟩ : En) ∈ L → Calls Try.prog F (Value.agg #[.int .i64 xg, .int .i64 xa] :: cb).toArray W fun e w' => e = .returned (.agg #[.int .i64 (ng xg), .int .i64 (na xa)]) ∧ Below W.heap.size W w')
    (hO : Ok (turn (chg g ng na) L)) :
    Calls Try.prog 37 #[.pointer (some ⟨t, 0, none⟩), .int .i64 g, .func (.func F) #[] cb.toArray] w fun e w' => e = .returned (.int .i64 (L.countP (oth g ng na) : Nat)) ∧ LsIs w' t m (turn (chg g ng na) L) ∧ Apart m w w' := by
  have hc := h.c0
  have hm := h.m
  have HT : Hid (RowAt w t 52 [.map (some m)]) := h.h
  have HK : Hid (Ok L) := h.ok
  have HNE : Hid (t ≠ m) := h.ne
  have HML : Hid (m < w.heap.size) := h.lt.2
  have HO : Hid (Ok (turn (chg g ng na) L)) := hO
  have HC : Hid (∀ lf, cameN L (oth g ng na) lf < 1000000) := fun lf => Nat.lt_of_le_of_lt (cameN_le L _ lf) hL
  have HNX : Hid (∀ W, Apart m w W → ∀ xi xg xa, (⟨xi, xg, xa⟩ : En) ∈ L → Calls Try.prog F (Value.agg #[.int .i64 xg, .int .i64 xa] :: cb).toArray W fun e w' => e = .returned (.agg #[.int .i64 (ng xg), .int .i64 (na xa)]) ∧ Below W.heap.size W w') := hN
  have HI : Hid (∀ x, (chg g ng na x).i = x.i) := chg_i g ng na
  clear h hO hN
  rcases hF with ⟨rfl, rfl⟩ | ⟨bx, rfl, rfl⟩
  all_goals
    go_enter Try.func37, Try.ntmps37
    go_wp2_with (at_range; refine wpList_range_rg rfl _ rfl m L rfl hm hL ?_; intro w0 hrg0 hb0 hs0)
    go_frame
    go_loopw [7] (fun s7 wr => ∃ (lf : Int → Bool) (cnt n : Nat), s7 = .int .i64 n ∧ n = cameN L (oth g ng na) lf ∧ Rg wr m w.heap.size (turn (mid (chg g ng na) lf) L) lf cnt ∧ Apart m w wr) (fun _ wr => wr.rangeLeft m w.heap.size)
    case atStart => exact ⟨fun _ => true, _, 0, rfl, (cameN_start fun _ _ => rfl).symm, by rw [mid_start _ (fun _ _ => rfl)]; exact hrg0, Apart.ofBelow hb0⟩
    case round =>
      obtain ⟨lf, cnt, n, rfl, hn, hrg, hap⟩ := hrel
      have HCN : Hid (n = cameN L (oth g ng na) lf) := hn
      have hnl := HC.out lf
      rw [← hn] at hnl
      clear hn hrg0 hb0 hs0 hm hc
      have hrs := hap.size
      obtain ⟨L1, hL1⟩ : ∃ L1, L1 = turn (mid (chg g ng na) lf) L := ⟨_, rfl⟩
      rw [← hL1] at hrg
      have HL1 : Hid (L1 = turn (mid (chg g ng na) lf) L) := hL1
      clear hL1
      go_wp2_with (at_next; refine wpList_next_rg rfl _ rfl m w.heap.size L1 lf cnt rfl hrg ?_ ?_)
      · intro hd
        have hd2 : ∀ x ∈ L, lf x.i = false := fun x hx => by
          have := hd (mid (chg g ng na) lf x) (by rw [HL1.out]; exact List.mem_map.2 ⟨x, hx, rfl⟩)
          rwa [mid_i HI.out] at this
        have HF : Hid (n = L.countP (oth g ng na)) := by show _ = _; rw [HCN.out, cameN_end hd2]
        have HG : Hid (L1 = turn (chg g ng na) L) := by show _ = _; rw [HL1.out, mid_end _ hd2]
        clear hd hd2
        go_wp2
        go_ret
        exact ⟨by rw [← HF.out]; rfl, ⟨HT.out.apart hap HNE.out, by rw [← HG.out]; exact hrg.mapIs, HO.out⟩, hap⟩
      · intro xi xg xa w1 cnt1 hx hl hrg1 hlt hg1 hs1 hen
        have hap1 : Apart m w w1 := apart_grown hap hg1 (Nat.le_refl _)
        have HM : Hid (cnt1 < cnt) := hlt
        have HR : Hid (Rg wr m w.heap.size L1 lf cnt) := hrg
        have HX : Hid ((⟨xi, xg, xa⟩ : En) ∈ L) := mid_mem HI.out (HL1.out ▸ hx) hl
        have hwf : (Lit.int .i64 xi).wf = true := wf_rng (HK.out.rng _ HX.out)
        have hstep := cameN_step HK.out.srt (oth g ng na) HX.out hl
        have HLF : Hid (lf xi = true) := hl
        have HP1 : Hid (Apart m w w1) := hap1
        clear hlt hrg hx hl hg1 hap hap1
        by_cases he : xg = g
        · have hd : (xg != g) = false := by simpa using he
          have HA2 : Hid (Apart m w (w1.alloc (.cells #[.int .i64 xg, .int .i64 xa] 56))) := HP1.out.trans (Apart.ofBelow (below_alloc _ _))
          have HCALL := HNX.out _ HA2.out xi xg xa HX.out
          obtain ⟨g', hg'⟩ : ∃ g', g' = ng xg := ⟨_, rfl⟩
          obtain ⟨a', ha'⟩ : ∃ a', a' = na xa := ⟨_, rfl⟩
          rw [← hg', ← ha'] at HCALL
          have HCL : Hid (Calls Try.prog _ _ _ _) := HCALL
          have HGA : Hid (chg g ng na ⟨xi, xg, xa⟩ = ⟨xi, g', a'⟩) := by show _ = _; rw [hg', ha']; simp [chg, he]
          have HOT : Hid (oth g ng na ⟨xi, xg, xa⟩ = !(g' == xg && a' == xa)) := by show _ = _; rw [hg', ha']; simp [oth, he]
          clear HCALL hg' ha' he
          go_wp2_with fail
          refine HCL.out.mono ?_
          rintro e w3 ⟨rfl, hb3⟩
          have hrg3 := (hrg1.below (below_alloc w1 (.cells #[.int .i64 xg, .int .i64 xa] 56))).below hb3
          have HP3 : Hid (Apart m w w3) := HA2.out.trans (Apart.ofBelow hb3)
          have hbx3 := (RowAt.new w1 #[.int .i64 xg, .int .i64 xa] 56).below hb3 (by simp)
          rw [hs1] at hbx3
          have hbx4 := hbx3.alloc (.cells #[.int .i64 g', .int .i64 a'] 56)
          have hk0 : (w3.alloc (.cells #[.int .i64 g', .int .i64 a'] 56)).cell? ⟨wr.heap.size, 0, none⟩ = some (.int .i64 xg) := by rw [hbx4.cell]; rfl
          have hk1 : (w3.alloc (.cells #[.int .i64 g', .int .i64 a'] 56)).cell? ⟨wr.heap.size, 1, none⟩ = some (.int .i64 xa) := by rw [hbx4.cell]; rfl
          have hrg4 := hrg3.below (below_alloc w3 (.cells #[.int .i64 g', .int .i64 a'] 56))
          have HP4 : Hid (Apart m w (w3.alloc (.cells #[.int .i64 g', .int .i64 a'] 56))) := HP3.out.trans (Apart.ofBelow (below_alloc _ _))
          have hct : (w3.alloc (.cells #[.int .i64 g', .int .i64 a'] 56)).cell? ⟨t, 0, none⟩ = some (.map (some m)) := by rw [(HT.out.apart HP4.out HNE.out).cell]; rfl
          clear hb3 hbx3 hbx4 hrg3 hrg1 HP3
          have heq := fun w => eq56 g' a' xg xa w
          have hgt := guard56
          obtain ⟨w4, hw4⟩ : ∃ w4, w4 = w3.alloc (.cells #[.int .i64 g', .int .i64 a'] 56) := ⟨_, rfl⟩
          cases hne : (g' == xg && a' == xa) with
          | true =>
            have ho : oth g ng na ⟨xi, xg, xa⟩ = false := by rw [HOT.out, hne]; rfl
            have HC1 : Hid (cameN L (oth g ng na) (less lf xi) = n) := by show _ = _; rw [hstep, HCN.out, ho]; rfl
            have HS : Hid (turn (mid (chg g ng na) (less lf xi)) L = L1) := by show _ = _; rw [HL1.out]; exact mid_same HK.out.srt HX.out (oth_not ho)
            rw [hne] at heq
            clear hstep ho hne hw4
            go_wp2
            go_roundw
            case rel => exact ⟨less lf xi, cnt1, n, by go_num, HC1.out.symm, by rw [HS.out]; exact hrg4, HP4.out⟩
            case measure => rw [hrg4.left_eq, HR.out.left_eq]; exact HM.out
          | false =>
            have ho : oth g ng na ⟨xi, xg, xa⟩ = true := by rw [HOT.out, hne]; rfl
            have HC1 : Hid (cameN L (oth g ng na) (less lf xi) = n + 1) := by show _ = _; rw [hstep, HCN.out, ho]; rfl
            have hnx := mid_next HI.out HK.out.srt (lf := lf) HX.out
            rw [HGA.out, ← HL1.out] at hnx
            obtain ⟨L2, hL2⟩ : ∃ L2, L2 = turn (mid (chg g ng na) (less lf xi)) L := ⟨_, rfl⟩
            rw [← hL2] at hnx
            have hin : (lk L1 xi).isSome = true := by rw [HL1.out]; exact turn_lk_some (mid_i HI.out lf) HK.out.srt HX.out
            obtain ⟨w5, hrun, hrg5, hb5⟩ := (hrg4.drewN 1).put (L' := L2) (g := g') (a := a') hwf hin (by rw [hL2, HL1.out, turn_len, turn_len]) hnx (fun y hy => by
              rw [hL2] at hy
              obtain ⟨z, hz, rfl⟩ := List.mem_map.1 hy
              exact ⟨mid (chg g ng na) lf z, by rw [HL1.out]; exact List.mem_map.2 ⟨z, hz, rfl⟩, by rw [mid_i HI.out, mid_i HI.out]⟩)
            have hrun' : (Instr.mapUpdate 50 (.map (some m)) (.int .i64 xi) (.agg #[.int .i64 g', .int .i64 a'])).run Try.prog (w3.alloc (.cells #[.int .i64 g', .int .i64 a'] 56)).drew = .ok () w5 := hrun
            have HR5 : Hid (Rg w5 m w.heap.size L2 (less lf xi) cnt1) := hrg5
            have HB5 : Hid (But m (w3.alloc (.cells #[.int .i64 g', .int .i64 a'] 56)) w5) := ⟨hb5.os, hb5.tape, hb5.output, hb5.size, hb5.block⟩
            have HL2 : Hid (L2 = turn (mid (chg g ng na) (less lf xi)) L) := hL2
            rw [hne] at heq
            clear hstep ho hne hw4 hnx hL2 hin hrg5 hb5 hrg4 hrun
            go_wp2_with fail
            go_region
            go_wp2
            go_roundw
            case rel => exact ⟨less lf xi, cnt1, n + 1, by go_num, HC1.out.symm, by rw [← HL2.out]; exact HR5.out, HP4.out.trans (Apart.ofBut HB5.out)⟩
            case measure => rw [HR5.out.left_eq, HR.out.left_eq]; exact HM.out
        · have ho : oth g ng na ⟨xi, xg, xa⟩ = false := by simp [oth, he]
          have HC1 : Hid (cameN L (oth g ng na) (less lf xi) = n) := by show _ = _; rw [hstep, HCN.out, ho]; rfl
          have HS : Hid (turn (mid (chg g ng na) (less lf xi)) L = L1) := by show _ = _; rw [HL1.out]; exact mid_same HK.out.srt HX.out (oth_not ho)
          have hd : (xg != g) = true := by simpa using he
          clear hstep he ho
          go_wp2
          go_roundw
          case rel => exact ⟨less lf xi, cnt1, n, by go_num, HC1.out.symm, by rw [HS.out]; exact hrg1.below (below_alloc _ _), HP1.out.trans (Apart.ofBelow (below_alloc _ _))⟩
          case measure => rw [(hrg1.below (below_alloc _ _)).left_eq, HR.out.left_eq]; exact HM.out
end Go.Proofs.Ytfmgmelgfnppkaa
