/-
  The document's log as it lies in memory; the contracts of its New, Went and Came.
-/
import Derived.Test.YtgnobaenlcbfjaaOwn
import Derived.Deep.OwnRows
namespace Go.Proofs.Ytgnobaenlcbfjaa
open Go.RowKit

/-- The document's log at block d: its clocks at p, how many came back at q. -/
structure RfIs (w : World) (d p q : Nat) (f k : Int → Int) : Prop where
  hd : RowAt w d 42 [.slice (some ⟨p, 0, none⟩) 64 64, .slice (some ⟨q, 0, none⟩) 64 64]
  cf : RowAt w p 3 (ic f)
  ck : RowAt w q 3 (ic k)
  ne : p ≠ q
theorem RfIs.drewN {w : World} {d p q : Nat} {f k : Int → Int} (h : RfIs w d p q f k) (n : Nat) : RfIs (w.drewN n) d p q f k := ⟨h.hd.drewN n, h.cf.drewN n, h.ck.drewN n, h.ne⟩
theorem RfIs.later {w w' : World} {d p q : Nat} {f k : Int → Int} (h : RfIs w d p q f k) (hb : Below w.heap.size w w') : RfIs w' d p q f k := ⟨h.hd.later hb, h.cf.later hb, h.ck.later hb, h.ne⟩
theorem RfIs.apart {w w' : World} {d p q c : Nat} {f k : Int → Int} {t : TypeId} {vs : List Value} (h : RfIs w d p q f k) (hc : RowAt w c t vs) (h1 : t ≠ 42) (h2 : t ≠ 3) (ha : Apart c w w') : RfIs w' d p q f k :=
  ⟨h.hd.apart ha (ne_type h.hd hc (fun e => h1 e.symm)), h.cf.apart ha (ne_type h.cf hc (fun e => h2 e.symm)), h.ck.apart ha (ne_type h.ck hc (fun e => h2 e.symm)), h.ne⟩
theorem RfIs.grown {B : Nat} {w w' : World} {v : Value} {L : List Nat} {d p q : Nat} {f k : Int → Int} (h : RfIs w d p q f k) (hm : Md B w v L) (hg : w.grownBy w' v.ownBlock) : RfIs w' d p q f k :=
  ⟨h.hd.grown hm hg (by decide), h.cf.grown hm hg (by decide), h.ck.grown hm hg (by decide), h.ne⟩
theorem RfIs.turnF {w w' : World} {d p q : Nat} {f k f' : Int → Int} (h : RfIs w d p q f k) (h2 : RowAt w' p 3 (ic f')) (hb : But p w w') : RfIs w' d p q f' k :=
  ⟨h.hd.but hb (ne_type h.hd h.cf (by decide)), h2, h.ck.but hb (fun e => h.ne e.symm), h.ne⟩
theorem RfIs.turnK {w w' : World} {d p q : Nat} {f k k' : Int → Int} (h : RfIs w d p q f k) (h2 : RowAt w' q 3 (ic k')) (hb : But q w w') : RfIs w' d p q f k' :=
  ⟨h.hd.but hb (ne_type h.hd h.ck (by decide)), h.cf.but hb h.ne, h2, h.ne⟩
theorem RfIs.heads {w : World} {d p q : Nat} {f k : Int → Int} (h : RfIs w d p q f k) : w.cell? ⟨d, 0, none⟩ = some (.slice (some ⟨p, 0, none⟩) 64 64) ∧ w.cell? ⟨d, 1, none⟩ = some (.slice (some ⟨q, 0, none⟩) 64 64) :=
  ⟨by rw [h.hd.cell]; rfl, by rw [h.hd.cell]; rfl⟩

theorem info3z : (Try.prog.info? 3).map (fun i => (i.zero, i.size, i.bytes)) = some (some (.int .i64 0), 1, 8) := by kernel_rfl
theorem zeros : List.replicate 64 (Value.int .i64 0) = ic (fun _ => 0) := by kernel_rfl

set_option maxHeartbeats 4000000 in
theorem rwent (N d p q : Nat) (f k : Int → Int) (g : Int) (w : World) (h : RfIs w d p q f k) (hf : Upto f N) (hN : N ≤ 1000000) :
    Calls Try.prog 19 #[.pointer (some ⟨d, 0, none⟩), .int .i64 g] w fun e w' => e = .returned (.int .u64 (wentX f g)) ∧ RfIs w' d p q (up f g) k ∧ Apart p w w' := by
  by_cases hg : 0 ≤ g ∧ g ≤ 63
  · have HO : Hid (wentX f g = mkS g (f g)) := wentX_in f hg.1 hg.2
    have HM : Hid (∀ w, Calls Try.prog 13 #[.int .i64 g, .int .i64 (f g)] w fun e w' => e = .returned (.int .u64 (mkS g (f g))) ∧ w' = w) := fun w => rmake g (f g) w (by have := hf g; omega)
    obtain ⟨n, rfl⟩ := Int.eq_ofNat_of_zero_le hg.1
    have hn : n < 64 := by omega
    have c0 := h.heads.1
    have c1 : w.cell? ⟨p, n, none⟩ = some (.int .i64 (f n)) := by rw [h.cf.cell]; exact ic_at f hn
    have f0 := h.cf.frozen n
    have hb := hf n
    have hN2 := h.cf.set n (.int .i64 (f n + 1))
    rw [ic_set f hn] at hN2
    have hR2 := h.turnF hN2 (But.setCell _ _ _ _)
    obtain ⟨d0, -⟩ := hR2.heads
    have d1 : (w.setCell ⟨p, n, none⟩ (.int .i64 (f n + 1))).cell? ⟨p, n, none⟩ = some (.int .i64 (f n + 1)) := by rw [hN2.cell, ic_at _ hn, up_self _ (by omega) (by omega)]
    obtain ⟨v, hv⟩ : ∃ v, v = f n := ⟨_, rfl⟩
    obtain ⟨X, hX⟩ : ∃ X, X = mkS n (f n) := ⟨_, rfl⟩
    rw [← hX] at HO HM
    rw [← hv] at HM c1 hb hN2 hR2 d0 d1
    have HR : Hid (RfIs (w.setCell ⟨p, n, none⟩ (.int .i64 (v + 1))) d p q (up f n) k) := hR2
    clear h hg hf hX hv hN2 hR2
    go_enter Try.func19, Try.ntmps19
    go_wp2_with fail
    refine (HM.out _).mono ?_
    rintro e w2 ⟨rfl, rfl⟩
    go_wp2_with fail
    go_ret
    exact ⟨by rw [HO.out]; rfl, HR.out, Apart.ofBut (But.setCell _ _ _ _)⟩
  · have HO : Hid (wentX f g = 0) := wentX_no f hg
    have HU : Hid (up f g = f) := up_no f hg
    have HW : Hid (RfIs w d p q f k) := h
    have hd : (decide (g < 0) || decide (63 < g)) = true := by simp; omega
    by_cases h0 : g < 0
    · have h1 : decide (g < 0) = true := decide_eq_true h0
      clear h hg hf hd
      go_enter Try.func19, Try.ntmps19
      go_wp2_with fail
      go_ret
      rw [HU.out]
      exact ⟨by rw [HO.out]; rfl, HW.out, Apart.refl _ _⟩
    · have h1 : decide (g < 0) = false := decide_eq_false h0
      have h2 : decide (63 < g) = true := by simp; omega
      clear h hg hf hd
      go_enter Try.func19, Try.ntmps19
      go_wp2_with fail
      go_ret
      rw [HU.out]
      exact ⟨by rw [HO.out]; rfl, HW.out, Apart.refl _ _⟩

set_option maxHeartbeats 4000000 in
theorem rcame (N M d p q : Nat) (f k : Int → Int) (x : Nat) (g r : Int) (w : World) (h : RfIs w d p q f k) (hf : Upto f N) (hk : Upto k M) (hN : N ≤ 1000000) (hM : M ≤ 1000000) (hx : x < 18446744073709551616) :
    Calls Try.prog 21 #[.pointer (some ⟨d, 0, none⟩), .int .u64 x, .int .i64 g, .int .i64 r] w fun e w' => e = .returned (.bool (cameB f x r)) ∧ RfIs w' d p q f (cameF f k x g r) ∧ Apart q w w' := by
  obtain ⟨G, hG⟩ : ∃ G, G = gS x := ⟨_, rfl⟩
  obtain ⟨C, hC⟩ : ∃ C, C = cS x := ⟨_, rfl⟩
  obtain ⟨S, hS⟩ : ∃ S, S = isS x := ⟨_, rfl⟩
  have HL : Hid (∀ w, Calls Try.prog 10 #[.int .u64 x] w fun e w' => e = .returned (.tuple #[.int .i64 G, .int .i64 C, .bool S]) ∧ w' = w) := by
    intro w; rw [hG, hC, hS]; exact rlook x w hx
  have HW : Hid (RfIs w d p q f k) := h
  by_cases hs : isS x = true ∧ gS x ≤ 63
  · have hgb := (gS_bounds x).1
    have hE := came_is (f := f) (r := r) hs.1 hs.2
    have hsx := hs.1
    have hs1 := hs.1
    rw [← hS] at hs1
    subst hs1
    have hs2 := hs.2
    rw [← hG] at hs2 hgb hE
    clear hs
    obtain ⟨n, rfl⟩ := Int.eq_ofNat_of_zero_le hgb
    have hn : n < 64 := by omega
    have hb := hf n
    rw [nearS_is r hsx hb.1] at hE
    have c0 := h.heads.1
    have c1 : w.cell? ⟨p, n, none⟩ = some (.int .i64 (f n)) := by rw [h.cf.cell]; exact ic_at f hn
    have ed : decide (63 < (n : Int)) = false := by simp; omega
    obtain ⟨v, hv⟩ : ∃ v, v = f n := ⟨_, rfl⟩
    rw [← hv] at c1 hb hE
    obtain ⟨D, hD⟩ : ∃ D, D = dS x v := ⟨_, rfl⟩
    have HK : Hid (∀ w, Calls Try.prog 11 #[.int .u64 x, .int .i64 v] w fun e w' => e = .returned (.int .i64 D) ∧ w' = w) := by
      intro w; rw [hD]; exact rdist x v w hx (by omega)
    rw [← hD] at hE
    clear hG hC hS hv hgb hf h hD hsx
    cases hc : cameB f x r with
    | false =>
      have hd : decide (r < D) = true := by
        rw [hc] at hE
        have := of_decide_eq_false hE.symm
        exact decide_eq_true (by omega)
      have HF : Hid (cameF f k x g r = k) := by show _ = _; simp [cameF, hc]
      clear hc hE
      go_enter Try.func21, Try.ntmps21
      go_wp2_with fail
      refine (HL.out _).mono ?_
      rintro e w1 ⟨rfl, rfl⟩
      go_wp2_with fail
      refine (HK.out _).mono ?_
      rintro e w1 ⟨rfl, rfl⟩
      go_wp2_with fail
      go_ret
      rw [HF.out]
      exact ⟨rfl, HW.out, Apart.refl _ _⟩
    | true =>
      have hd : decide (r < D) = false := by
        rw [hc] at hE
        have := of_decide_eq_true hE.symm
        exact decide_eq_false (by omega)
      by_cases hg : 0 ≤ g ∧ g ≤ 63
      · obtain ⟨m, rfl⟩ := Int.eq_ofNat_of_zero_le hg.1
        have HF : Hid (cameF f k x m r = up k m) := by show _ = _; simp [cameF, hc]
        have hm : m < 64 := by omega
        have k0 := HW.out.heads.2
        have k1 : w.cell? ⟨q, m, none⟩ = some (.int .i64 (k m)) := by rw [HW.out.ck.cell]; exact ic_at k hm
        have f1 := HW.out.ck.frozen m
        have hbk := hk m
        have e1 : decide ((0 : Int) ≤ (m : Int)) = true := by simp
        have e2 : decide ((m : Int) < 64) = true := by simp; omega
        have hN2 := HW.out.ck.set m (.int .i64 (k m + 1))
        rw [ic_set k hm] at hN2
        have hR2 := HW.out.turnK hN2 (But.setCell _ _ _ _)
        obtain ⟨u, hu⟩ : ∃ u, u = k m := ⟨_, rfl⟩
        rw [← hu] at k1 hbk hR2
        have HR : Hid (RfIs (w.setCell ⟨q, m, none⟩ (.int .i64 (u + 1))) d p q f (up k m)) := hR2
        clear hN2 hR2 hu hk hc hg HW hE
        go_enter Try.func21, Try.ntmps21
        go_wp2_with fail
        refine (HL.out _).mono ?_
        rintro e w1 ⟨rfl, rfl⟩
        go_wp2_with fail
        refine (HK.out _).mono ?_
        rintro e w1 ⟨rfl, rfl⟩
        go_wp2_with fail
        go_ret
        rw [HF.out]
        exact ⟨rfl, HR.out, Apart.ofBut (But.setCell _ _ _ _)⟩
      · have HF : Hid (cameF f k x g r = k) := by show _ = _; simp [cameF, hc, up_no k hg]
        by_cases g0 : 0 ≤ g
        · have e1 : decide (0 ≤ g) = true := decide_eq_true g0
          have e2 : decide (g < 64) = false := by simp; omega
          clear hc hg hk hE
          go_enter Try.func21, Try.ntmps21
          go_wp2_with fail
          refine (HL.out _).mono ?_
          rintro e w1 ⟨rfl, rfl⟩
          go_wp2_with fail
          refine (HK.out _).mono ?_
          rintro e w1 ⟨rfl, rfl⟩
          go_wp2_with fail
          go_ret
          rw [HF.out]
          exact ⟨rfl, HW.out, Apart.refl _ _⟩
        · have e1 : decide (0 ≤ g) = false := decide_eq_false g0
          clear hc hg hk hE
          go_enter Try.func21, Try.ntmps21
          go_wp2_with fail
          refine (HL.out _).mono ?_
          rintro e w1 ⟨rfl, rfl⟩
          go_wp2_with fail
          refine (HK.out _).mono ?_
          rintro e w1 ⟨rfl, rfl⟩
          go_wp2_with fail
          go_ret
          rw [HF.out]
          exact ⟨rfl, HW.out, Apart.refl _ _⟩
  · have hc : cameB f x r = false := came_none hs
    have HF : Hid (cameF f k x g r = k) := by show _ = _; simp [cameF, hc]
    rw [hc]
    clear hc h hf hk
    cases S with
    | false =>
      clear hG hC hS hs
      go_enter Try.func21, Try.ntmps21
      go_wp2_with fail
      refine (HL.out _).mono ?_
      rintro e w1 ⟨rfl, rfl⟩
      go_wp2_with fail
      go_ret
      rw [HF.out]
      exact ⟨rfl, HW.out, Apart.refl _ _⟩
    | true =>
      have ed : decide (63 < G) = true := by
        simp
        rw [hG]
        have : ¬ gS x ≤ 63 := fun h => hs ⟨hS.symm, h⟩
        omega
      clear hG hC hS hs
      go_enter Try.func21, Try.ntmps21
      go_wp2_with fail
      refine (HL.out _).mono ?_
      rintro e w1 ⟨rfl, rfl⟩
      go_wp2_with fail
      go_ret
      rw [HF.out]
      exact ⟨rfl, HW.out, Apart.refl _ _⟩

theorem made_row (w : World) : RowAt (w.alloc (.cells (madeCells #[.int .i64 0] 64) 3)) w.heap.size 3 (ic (fun _ => 0)) := by
  have := RowAt.new w (madeCells #[.int .i64 0] 64) 3
  rw [← zeros, ← toList_madeCells_one]
  exact this
theorem three (w : World) (X : Array Value) :
    RowAt (((w.alloc (.cells (madeCells #[.int .i64 0] 64) 3)).alloc (.cells (madeCells #[.int .i64 0] 64) 3)).alloc (.cells X 42)).drew w.heap.size 3 (ic (fun _ => 0)) ∧
    RowAt (((w.alloc (.cells (madeCells #[.int .i64 0] 64) 3)).alloc (.cells (madeCells #[.int .i64 0] 64) 3)).alloc (.cells X 42)).drew (w.heap.size + 1) 3 (ic (fun _ => 0)) ∧
    RowAt (((w.alloc (.cells (madeCells #[.int .i64 0] 64) 3)).alloc (.cells (madeCells #[.int .i64 0] 64) 3)).alloc (.cells X 42)).drew (w.heap.size + 1 + 1) 42 X.toList ∧
    Below w.heap.size w (((w.alloc (.cells (madeCells #[.int .i64 0] 64) 3)).alloc (.cells (madeCells #[.int .i64 0] 64) 3)).alloc (.cells X 42)).drew := by
  have h1 := made_row w
  have h2 := made_row (w.alloc (.cells (madeCells #[.int .i64 0] 64) 3))
  rw [show (w.alloc (.cells (madeCells #[.int .i64 0] 64) 3)).heap.size = w.heap.size + 1 by simp] at h2
  have h3 := RowAt.new ((w.alloc (.cells (madeCells #[.int .i64 0] 64) 3)).alloc (.cells (madeCells #[.int .i64 0] 64) 3)) X 42
  rw [show ((w.alloc (.cells (madeCells #[.int .i64 0] 64) 3)).alloc (.cells (madeCells #[.int .i64 0] 64) 3)).heap.size = w.heap.size + 1 + 1 by simp] at h3
  have hb : Below w.heap.size w (((w.alloc (.cells (madeCells #[.int .i64 0] 64) 3)).alloc (.cells (madeCells #[.int .i64 0] 64) 3)).alloc (.cells X 42)) :=
    bel_trans (bel_trans (below_alloc w _) (below_alloc _ _) (Nat.le_refl _)) (below_alloc _ _) (Nat.le_refl _)
  exact ⟨((h1.alloc _).alloc _).drewN 1, (h2.alloc _).drewN 1, h3.drewN 1, below_drawn hb 1⟩
set_option maxHeartbeats 4000000 in
theorem rnew (w : World) : Calls Try.prog 17 #[] w fun e w' => ∃ d p q, e = .returned (.pointer (some ⟨d, 0, none⟩)) ∧ w.heap.size ≤ p ∧ w.heap.size ≤ q ∧ RfIs w' d p q (fun _ => 0) (fun _ => 0) ∧ Below w.heap.size w w' := by
  have hmk : ∀ w, (Instr.makeSlice 40 (.int .i64 64) (.int .i64 64)).run Try.prog w = .ok (.slice (some ⟨w.heap.size, 0, none⟩) 64 64) (w.alloc (.cells (madeCells #[.int .i64 0] 64) 3)) := run_make_row' (P := Try.prog) 40 3 (.int .i64 0) 8 Try.underlying40 info3z rfl .i64 .i64 64 (by omega) (by omega)
  go_enter Try.func17, Try.ntmps17
  go_wp2_with fail
  go_region
  all_goals
    go_wp2_with fail
    go_ret
    first
      | exact ⟨_, _, _, rfl, by omega, by omega, ⟨(three w _).2.2.1, (three w _).1, (three w _).2.1, by omega⟩, (three w _).2.2.2⟩
      | exact ⟨_, _, _, rfl, by omega, by omega, ⟨(three w _).2.2.1, (three w _).2.1, (three w _).1, by omega⟩, (three w _).2.2.2⟩
end Go.Proofs.Ytgnobaenlcbfjaa
