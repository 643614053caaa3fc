/-
  The contracts of Went and Came.
-/
import Derived.Test.YtgnobaenlcbfjaaP3
namespace Go.Proofs.Ytgnobaenlcbfjaa
open Go.RowKit

set_option maxHeartbeats 4000000 in
theorem pwent (N c : Nat) (f k : Int → Int) (g : Int) (w : World) (h : LgIs w c f k) (hf : Upto f N) (hN : N ≤ 1000000) :
    Calls Try.prog 18 #[.pointer (some ⟨c, 0, none⟩), .int .i64 g] w fun e w' => e = .returned (.int .u64 (wentX f g)) ∧ LgIs w' c (up f g) k ∧ Apart c w w' := by
  have HGx := HGr
  by_cases hg : 0 ≤ g ∧ g ≤ 63
  · have HO : Hid (wentX f g = mkS g (f g)) := wentX_in f hg.1 hg.2
    have ed : decide (0 ≤ g ∧ g ≤ 63) = true := decide_eq_true hg
    have HM : Hid (∀ w, Calls Try.prog 12 #[.int .i64 g, .int .i64 (f g)] w fun e w' => e = .returned (.int .u64 (mkS g (f g))) ∧ Below w.heap.size w w') := fun w => pmake g (f g) w (by omega)
    obtain ⟨n, rfl⟩ := Int.eq_ofNat_of_zero_le hg.1
    have hn : n < 64 := by omega
    have c0 : w.cell? ⟨c, n, none⟩ = some (.int .i64 (f n)) := by rw [RowAt.cell h]; exact lc_f f k hn
    have f0 := RowAt.frozen h n
    have hb := hf n
    obtain ⟨v, hv⟩ : ∃ v, v = f n := ⟨_, rfl⟩
    obtain ⟨X, hX⟩ : ∃ X, X = mkS n (f n) := ⟨_, rfl⟩
    rw [← hX] at HO HM
    rw [← hv] at HM c0 hb
    have HV : Hid (v = f n) := hv
    have HW : Hid (RowAt w c 53 (lc f k)) := h
    clear h hg hf hX hv
    go_enter Try.func18, Try.ntmps18
    go_wp2_with fail
    refine (HGx.out _ _).mono ?_
    rintro e w1 ⟨rfl, rfl⟩
    rw [ed]
    go_wp2_with fail
    refine (HM.out _).mono ?_
    rintro e w2 ⟨rfl, hb2⟩
    have h2 : RowAt w2 c 53 (lc f k) := HW.out.later hb2
    have c2 : w2.cell? ⟨c, n, none⟩ = some (.int .i64 v) := cell_later hb2 c0
    have f2 := h2.frozen n
    have hN2 := h2.set n (.int .i64 (f n + 1))
    rw [lc_setf f k hn, ← HV.out] at hN2
    have HN : Hid (RowAt (w2.setCell ⟨c, n, none⟩ (.int .i64 (v + 1))) c 53 (lc (up f n) k)) := hN2
    have HB : Hid (Below _ _ w2) := hb2
    clear h2 hN2 hb2 HM HGx HW HV c0 f0
    go_wp2_with fail
    go_region
    go_wp2_with fail
    go_ret
    exact ⟨by rw [HO.out]; rfl, RowAt.drewN HN.out 1, ((Apart.ofBelow HB.out).trans (Apart.ofBut (But.setCell _ _ _ _))).drewN 1⟩
  · have HO : Hid (wentX f g = 0) := wentX_no f hg
    have HU : Hid (up f g = f) := up_no f hg
    have ed : decide (0 ≤ g ∧ g ≤ 63) = false := decide_eq_false hg
    have HW : Hid (LgIs w c f k) := h
    clear h hg hf
    go_enter Try.func18, Try.ntmps18
    go_wp2_with fail
    refine (HGx.out _ _).mono ?_
    rintro e w1 ⟨rfl, rfl⟩
    rw [ed]
    go_wp2_with fail
    go_ret
    rw [HU.out]
    exact ⟨by rw [HO.out]; rfl, HW.out, Apart.refl _ _⟩

theorem HWk : Hid (∀ (x : Nat) (c r : Int) (w : World), x < 18446744073709551616 → c ≤ 9223372036854775807 → Calls Try.prog 15 #[.int .u64 x, .int .i64 c, .int .i64 r] w fun e w' => e = .returned (.bool (nearS x c r)) ∧ w' = w) := pwork
theorem came_is {f : Int → Int} {x : Nat} {r : Int} (h : isS x = true) (hg : gS x ≤ 63) : cameB f x r = nearS x (f (gS x)) r := by simp [cameB, h, hg]
theorem came_none {f : Int → Int} {x : Nat} {r : Int} (h : ¬ (isS x = true ∧ gS x ≤ 63)) : cameB f x r = false := by
  cases hb : cameB f x r with
  | false => rfl
  | true => simp [cameB] at hb; exact absurd hb.1 h
set_option maxHeartbeats 4000000 in
theorem pcame (N M c : Nat) (f k : Int → Int) (x : Nat) (g r : Int) (w : World) (h : LgIs w c f k) (hf : Upto f N) (hk : Upto k M) (hN : N ≤ 1000000) (hM : M ≤ 1000000) (hx : x < 18446744073709551616) :
    Calls Try.prog 20 #[.pointer (some ⟨c, 0, none⟩), .int .u64 x, .int .i64 g, .int .i64 r] w fun e w' => e = .returned (.bool (cameB f x r)) ∧ LgIs w' c f (cameF f k x g r) ∧ Apart c w w' := by
  have HGx := HGr
  obtain ⟨G, hG⟩ : ∃ G, G = gS x := ⟨_, rfl⟩
  obtain ⟨C, hC⟩ : ∃ C, C = cS x := ⟨_, rfl⟩
  obtain ⟨S, hS⟩ : ∃ S, S = isS x := ⟨_, rfl⟩
  have HL : Hid (∀ w, Calls Try.prog 9 #[.int .u64 x] w fun e w' => e = .returned (.tuple #[.int .i64 G, .int .i64 C, .bool S]) ∧ w' = w) := by
    intro w; rw [hG, hC, hS]; exact plook x w hx
  have HW : Hid (RowAt w c 53 (lc f k)) := h
  by_cases hs : isS x = true ∧ gS x ≤ 63
  · have hgb := (gS_bounds x).1
    have hE := came_is (f := f) (r := r) hs.1 hs.2
    have hs1 := hs.1
    rw [← hS] at hs1
    subst hs1
    have hs2 := hs.2
    rw [← hG] at hs2 hgb hE
    clear hs
    obtain ⟨n, rfl⟩ := Int.eq_ofNat_of_zero_le hgb
    have hn : n < 64 := by omega
    have c0 : w.cell? ⟨c, n, none⟩ = some (.int .i64 (f n)) := by rw [RowAt.cell h]; exact lc_f f k hn
    have hb := hf n
    have ed : decide (0 ≤ (n : Int) ∧ (n : Int) ≤ 63) = true := decide_eq_true ⟨hgb, hs2⟩
    obtain ⟨v, hv⟩ : ∃ v, v = f n := ⟨_, rfl⟩
    rw [← hv] at c0 hb hE
    have HK : Hid (∀ w, Calls Try.prog 15 #[.int .u64 x, .int .i64 v, .int .i64 r] w fun e w' => e = .returned (.bool (nearS x v r)) ∧ w' = w) := fun w => HWk.out x v r w hx (by omega)
    rw [← hE] at HK
    clear hE hG hC hS hv hgb hf h
    cases hc : cameB f x r with
    | false =>
      rw [hc] at HK
      have HF : Hid (cameF f k x g r = k) := by show _ = _; simp [cameF, hc]
      clear hc
      go_enter Try.func20, Try.ntmps20
      go_wp2_with fail
      refine (HL.out _).mono ?_
      rintro e w1 ⟨rfl, rfl⟩
      go_wp2_with fail
      refine (HGx.out _ _).mono ?_
      rintro e w1 ⟨rfl, rfl⟩
      rw [ed]
      go_wp2_with fail
      refine (HK.out _).mono ?_
      rintro e w1 ⟨rfl, rfl⟩
      go_wp2_with fail
      go_ret
      rw [HF.out]
      exact ⟨rfl, HW.out, Apart.refl _ _⟩
    | true =>
      rw [hc] at HK
      by_cases hg : 0 ≤ g ∧ g ≤ 63
      · have eg : decide (0 ≤ g ∧ g ≤ 63) = true := decide_eq_true hg
        obtain ⟨m, rfl⟩ := Int.eq_ofNat_of_zero_le hg.1
        have HF : Hid (cameF f k x m r = up k m) := by show _ = _; simp [cameF, hc]
        have hm : m < 64 := by omega
        have c1 : w.cell? ⟨c, 64 + m, none⟩ = some (.int .i64 (k m)) := by rw [HW.out.cell]; exact lc_k f k hm
        have f1 := HW.out.frozen (64 + m)
        have hbk := hk m
        have hN2 := HW.out.set (64 + m) (.int .i64 (k m + 1))
        rw [lc_setk f k hm] at hN2
        obtain ⟨u, hu⟩ : ∃ u, u = k m := ⟨_, rfl⟩
        rw [← hu] at c1 hbk hN2
        have HN : Hid (RowAt (w.setCell ⟨c, 64 + m, none⟩ (.int .i64 (u + 1))) c 53 (lc f (up k m))) := hN2
        clear hN2 hu hk hc hg HW
        go_enter Try.func20, Try.ntmps20
        go_wp2_with fail
        refine (HL.out _).mono ?_
        rintro e w1 ⟨rfl, rfl⟩
        go_wp2_with fail
        refine (HGx.out _ _).mono ?_
        rintro e w1 ⟨rfl, rfl⟩
        rw [ed]
        go_wp2_with fail
        refine (HK.out _).mono ?_
        rintro e w1 ⟨rfl, rfl⟩
        go_wp2_with fail
        refine (HGx.out _ _).mono ?_
        rintro e w1 ⟨rfl, rfl⟩
        rw [eg]
        go_wp2_with fail
        go_region
        go_wp2_with fail
        go_ret
        rw [HF.out]
        exact ⟨rfl, RowAt.drewN HN.out 1, (Apart.ofBut (But.setCell _ _ _ _)).drewN 1⟩
      · have eg : decide (0 ≤ g ∧ g ≤ 63) = false := decide_eq_false hg
        have HF : Hid (cameF f k x g r = k) := by show _ = _; simp [cameF, hc, up_no k hg]
        clear hc hg hk
        go_enter Try.func20, Try.ntmps20
        go_wp2_with fail
        refine (HL.out _).mono ?_
        rintro e w1 ⟨rfl, rfl⟩
        go_wp2_with fail
        refine (HGx.out _ _).mono ?_
        rintro e w1 ⟨rfl, rfl⟩
        rw [ed]
        go_wp2_with fail
        refine (HK.out _).mono ?_
        rintro e w1 ⟨rfl, rfl⟩
        go_wp2_with fail
        refine (HGx.out _ _).mono ?_
        rintro e w1 ⟨rfl, rfl⟩
        rw [eg]
        go_wp2_with fail
        go_ret
        rw [HF.out]
        exact ⟨rfl, HW.out, Apart.refl _ _⟩
  · have hc : cameB f x r = false := came_none hs
    have HF : Hid (cameF f k x g r = k) := by show _ = _; simp [cameF, hc]
    rw [hc]
    clear hc h hf hk
    cases S with
    | false =>
      clear hG hC hS hs
      go_enter Try.func20, Try.ntmps20
      go_wp2_with fail
      refine (HL.out _).mono ?_
      rintro e w1 ⟨rfl, rfl⟩
      go_wp2_with fail
      go_ret
      rw [HF.out]
      exact ⟨rfl, HW.out, Apart.refl _ _⟩
    | true =>
      have ed : decide (0 ≤ G ∧ G ≤ 63) = false := decide_eq_false (fun h => hs ⟨hS.symm, by rw [← hG]; exact h.2⟩)
      clear hG hC hS hs
      go_enter Try.func20, Try.ntmps20
      go_wp2_with fail
      refine (HL.out _).mono ?_
      rintro e w1 ⟨rfl, rfl⟩
      go_wp2_with fail
      refine (HGx.out _ _).mono ?_
      rintro e w1 ⟨rfl, rfl⟩
      rw [ed]
      go_wp2_with fail
      go_ret
      rw [HF.out]
      exact ⟨rfl, HW.out, Apart.refl _ _⟩
end Go.Proofs.Ytgnobaenlcbfjaa
