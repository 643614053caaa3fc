/-
  The law BitsSets, walked: for every input it answers true.
-/
import Derived.Test.YtnhlafifmiiliaaDoorNeg
namespace Go.Proofs.YtnhlafifmiiliaaDoor
open Go.RowKit

theorem exists_next (bs : List Bool) (on : Bool) : ∀ m f, bs.length - f = m → ∃ r, IsNext bs f on r := by
  intro m
  induction m with
  | zero => intro f h; exact ⟨-1, Or.inl ⟨rfl, fun j h1 h2 => by omega⟩⟩
  | succ m ih =>
    intro f h
    by_cases hon : bs.getD f false = on
    · exact ⟨f, Or.inr ⟨f, rfl, Nat.le_refl _, by omega, hon, fun i h1 h2 => by omega⟩⟩
    · obtain ⟨r, hr⟩ := ih (f + 1) (by omega)
      refine ⟨r, ?_⟩
      have step : ∀ j, f ≤ j → (f + 1 ≤ j → bs.getD j false ≠ on) → bs.getD j false ≠ on := fun j h1 h2 => by
        by_cases e : j = f
        · subst e; exact hon
        · exact h2 (by omega)
      rcases hr with ⟨rfl, h1⟩ | ⟨j, rfl, h1, h2, h3, h4⟩
      · exact Or.inl ⟨rfl, fun j g1 g2 => step j g1 (fun g => h1 j g g2)⟩
      · exact Or.inr ⟨j, rfl, by omega, h2, h3, fun i g1 g2 => step i g1 (fun g => h4 i g g2)⟩

/-- Both maps' next is one number. -/
theorem nexts_alike (bm bw br k : Nat) (bs : List Bool) (g : Int) (on : Bool) (hk : bs.length = k) (hl : k ≤ 65536) (hgl : g ≤ 9223372036854775807) :
    ∃ r : Int, (∀ w, MapB w bm bw bs → Tab w → Calls Tryd.prog 21 #[.pointer (some ⟨bm, 0, none⟩), .int .i64 g, .bool on] w fun e w' => e = .returned (.int .i64 r) ∧ w' = w) ∧
      (∀ w, BoolsAt w br bs → Calls Tryd.prog 22 #[.slice (some ⟨br, 0, none⟩) k k, .int .i64 g, .bool on] w fun e w' => e = .returned (.int .i64 r) ∧ w' = w) := by
  have hg : g < 0 ∧ g.toNat = 0 ∨ g = (g.toNat : Int) := by omega
  obtain ⟨r, hr⟩ := exists_next bs on _ g.toNat rfl
  refine ⟨r, fun w hm hT => ?_, fun w hb => ?_⟩
  · refine (nextAny bm bw bs g g.toNat on w hm hT hg).mono ?_
    rintro e w' ⟨⟨s, rfl, hs⟩, rfl⟩
    exact ⟨by rw [hs.unique hr], rfl⟩
  · subst hk
    refine (refNext br bs g g.toNat on w hl hb hg hgl).mono ?_
    rintro e w' ⟨⟨s, rfl, hs⟩, rfl⟩
    exact ⟨by rw [hs.unique hr], rfl⟩

theorem sets_out (n : Int) (a : Option Addr) (cap m : Nat) (x : Int) (on : Bool) (w : World) (hT : Tab w) (hm : m ≤ 9223372036854775807) (h : (500 < n ∧ n ≤ 65536) ∨ 100 < m) :
    Calls Tryd.prog 3 #[.int .i64 n, .slice a m cap, .int .i64 x, .bool on] w fun e w' => e = .returned (.bool true) ∧ Below w.heap.size w w' := by
  by_cases h1 : 500 < n
  · by_cases h2 : n ≤ 65536
    · clear h
      go_enter Tryd.func3, Tryd.ntmps3
      go_wp2_with (go_at_call 11; refine (works_any _ hT).mono ?_; rintro e w1 ⟨rfl, hb⟩)
      go_ret
      exact ⟨rfl, hb⟩
    · have h3 : 100 < m := by omega
      clear h
      go_enter Tryd.func3, Tryd.ntmps3
      go_wp2_with (go_at_call 11; refine (works_any _ hT).mono ?_; rintro e w1 ⟨rfl, hb⟩)
      go_ret
      exact ⟨rfl, hb⟩
  · have h3 : 100 < m := by omega
    clear h
    go_enter Tryd.func3, Tryd.ntmps3
    go_wp2_with (go_at_call 11; refine (works_any _ hT).mono ?_; rintro e w1 ⟨rfl, hb⟩)
    go_ret
    exact ⟨rfl, hb⟩

theorem ActsAt.get {w : World} {b off : Nat} {l : List (Int × Bool)} (h : ActsAt w (some ⟨b, off, none⟩) l) (i : Nat) (hi : i < l.length) :
    w.cell? ⟨b, off + i * 2, none⟩ = some (.int .i64 l[i].1) ∧ w.cell? ⟨b, off + i * 2 + 1, none⟩ = some (.bool l[i].2) := by
  obtain ⟨b', off', e, h1, h2⟩ := h i hi
  obtain ⟨rfl, rfl⟩ : b = b' ∧ off = off' := by simpa using e
  exact ⟨h1, h2⟩

set_option maxRecDepth 100000 in
set_option maxHeartbeats 8000000 in
theorem sets_in (n : Int) (k : Nat) (a : Option Addr) (cap : Nat) (l : List (Int × Bool)) (x : Int) (on : Bool) (w : World) (hT : Tab w) (hk : n < 0 ∧ k = 0 ∨ n = k ∧ k ≤ 500 ∨ 65536 < n ∧ k = 65536) (hl : l.length ≤ 100) (hc : ActsAt w a l) (hx : x ≤ 9223372036854775807) :
    Calls Tryd.prog 3 #[.int .i64 n, .slice a l.length cap, .int .i64 x, .bool on] w fun e w' => e = .returned (.bool true) ∧ Below w.heap.size w w' := by
  have hd1 : decide ((100 : Int) < (l.length : Int)) = false := by simp; omega
  have HK : Hid (n < 0 ∧ k = 0 ∨ n = k ∧ k ≤ 65536 ∨ 65536 < n ∧ k = 65536) := by show _ ∨ _; omega
  have hkl : k ≤ 65536 := by have := HK.out; omega
  have hkk : ((k : Int) != (k : Int)) = false := by simp
  have hpick : (if decide (500 < n) then decide (n ≤ 65536) else false) = false := by
    rcases hk with ⟨h1, -⟩ | ⟨h1, h2⟩ | ⟨h1, -⟩ <;> simp <;> omega
  have hsplit : n ≤ 500 ∨ 65536 < n := by omega
  clear hk
  have HC1 : Hid (ActsAt w a l) := hc
  clear hc
  rcases hsplit with hs | hs
  all_goals
    go_enter Tryd.func3, Tryd.ntmps3
    go_wp2_with fail
    refine (works_any _ hT).mono ?_
    rintro e w1 ⟨rfl, hb⟩
    have hc1 := HC1.out.below hb
    have hT1 := hT.below hb hT.pos
    have hp := hT1.pos
    clear hT
    go_wp2_with fail
    refine (newB n k w1 HK.out).mono ?_
    rintro e w2 ⟨rfl, hm2, hb2⟩
    obtain ⟨bw, hbw⟩ : ∃ bw, bw = w1.heap.size := ⟨_, rfl⟩
    rw [← hbw] at hm2 ⊢
    have hs1 : w1.heap.size ≤ bw := by omega
    clear hbw
    go_wp2_with fail
    refine (refNew n k w2 HK.out).mono ?_
    rintro e w3 ⟨rfl, hr3, hb3, hz3⟩
    have hlm := hm2.lt
    obtain ⟨br, hbr⟩ : ∃ br, br = w2.heap.size := ⟨_, rfl⟩
    have hm3 := hm2.below hb3 hlm.1 hlm.2.1
    have hB3 : Below w1.heap.size w1 w3 := hb2.trans (hb3.mono hb2.size)
    rw [← hbr] at hr3 hlm ⊢
    have hbr1 : bw + 1 < br := hlm.1
    have hlen3 : (List.replicate k false).length = k := by simp
    have HL3 : Hid ((List.replicate k false).length = k) := hlen3
    clear hbr hz3 hb3 hb2 hm2 hlm hlen3
    generalize List.replicate k false = bs0 at *
    go_wp2_with fail
    refine (lenB _ _ bs0 _ hm3).mono ?_
    rintro e w3' ⟨he, rfl⟩
    rw [HL3.out] at he
    subst he
    go_wp2
    go_loopw [12] (fun i wr => ∃ j : Nat, j ≤ l.length ∧ i = .int .i64 j ∧ (∃ bs, Hid (bs.length = k) ∧ MapB wr (bw + 1) bw bs ∧ BoolsAt wr br bs) ∧ Below w1.heap.size w1 wr) (fun i _ => l.length - (intOf i).toNat)
    case atStart => exact ⟨0, by omega, rfl, ⟨bs0, HL3, hm3, hr3⟩, hB3⟩
    case round =>
      clear hm3 hr3 hB3
      obtain ⟨j, hj, rfl, ⟨bs, HBS, hm, hr⟩, hbel⟩ := hrel
      by_cases hlt : j < l.length
      · obtain ⟨b, off, rfl, h1, h2⟩ := (hc1.below hbel) j hlt
        obtain ⟨I, hI⟩ : ∃ I, I = l[j].1 := ⟨_, rfl⟩
        obtain ⟨O, hO⟩ : ∃ O, O = l[j].2 := ⟨_, rfl⟩
        rw [← hI] at h1
        rw [← hO] at h2
        have HI : Hid (I = l[j].1) := hI
        have HO : Hid (O = l[j].2) := hO
        clear hI hO
        obtain ⟨tn, htn⟩ : ∃ tn, tn = turned bs I O := ⟨_, rfl⟩
        obtain ⟨bs', hbs'⟩ : ∃ bs', bs' = bset bs I O := ⟨_, rfl⟩
        have HBS' : Hid (bs'.length = k) := by show _ = _; rw [hbs', bset_len]; exact HBS.out
        obtain ⟨gi, hgi⟩ : ∃ gi, gi = bget bs' I := ⟨_, rfl⟩
        obtain ⟨C, hC⟩ : ∃ C, C = bs'.count true := ⟨_, rfl⟩
        obtain ⟨r, hn1, hn2⟩ := nexts_alike (bw + 1) bw br k bs' x on HBS'.out hkl hx
        have HN1 := (show Hid _ from hn1)
        have HN2 := (show Hid _ from hn2)
        have HS1 : Hid (∀ w, MapB w (bw + 1) bw bs → Calls Tryd.prog 15 #[.pointer (some ⟨bw + 1, 0, none⟩), .int .i64 I, .bool O] w fun e w' => e = .returned (.bool tn) ∧ MapB w' (bw + 1) bw bs' ∧ But bw w w') := fun w h => by rw [htn, hbs']; exact setB _ _ bs I O w h
        have HS2 : Hid (∀ w, BoolsAt w br bs → Calls Tryd.prog 16 #[.slice (some ⟨br, 0, none⟩) k k, .int .i64 I, .bool O] w fun e w' => e = .returned (.bool tn) ∧ BoolsAt w' br bs' ∧ But br w w') := fun w h => by
          have := refSet br bs I O w h
          rw [HBS.out, ← htn, ← hbs'] at this
          exact this
        have HG1 : Hid (∀ w, MapB w (bw + 1) bw bs' → Calls Tryd.prog 17 #[.pointer (some ⟨bw + 1, 0, none⟩), .int .i64 I] w fun e w' => e = .returned (.bool gi) ∧ w' = w) := fun w h => by rw [hgi]; exact getB _ _ bs' I w h
        have HG2 : Hid (∀ w, BoolsAt w br bs' → Calls Tryd.prog 18 #[.slice (some ⟨br, 0, none⟩) k k, .int .i64 I] w fun e w' => e = .returned (.bool gi) ∧ w' = w) := fun w h => by
          have := refGet br bs' I w h
          rw [HBS'.out, ← hgi] at this
          exact this
        have HCt1 : Hid (∀ w, MapB w (bw + 1) bw bs' → Calls Tryd.prog 19 #[.pointer (some ⟨bw + 1, 0, none⟩)] w fun e w' => e = .returned (.int .i64 C) ∧ w' = w) := fun w h => by rw [hC]; exact countB _ _ bs' w h
        have HCt2 : Hid (∀ w, BoolsAt w br bs' → Calls Tryd.prog 20 #[.slice (some ⟨br, 0, none⟩) k k] w fun e w' => e = .returned (.int .i64 C) ∧ w' = w) := fun w h => by
          have := refCount br bs' w (by have := HBS'.out; omega) h
          rw [HBS'.out, ← hC] at this
          exact this
        have hx1 : (tn != tn) = false := by simp
        have hx2 : (gi != gi) = false := by simp
        have hx3 : ((C : Int) != (C : Int)) = false := by simp
        have hx4 : (r != r) = false := by simp
        clear htn hbs' hgi hC hn1 hn2
        have hmd : MapB wr.drew (bw + 1) bw bs := hm.drewN 1
        have hrd : BoolsAt wr.drew br bs := hr.drewN 1
        have hbd := below_drawn hbel 1
        go_wp2
        go_region_with (go_at_call 15; refine (HS1.out _ hmd).mono ?_; rintro e w4 ⟨rfl, hm4, hb4⟩)
        all_goals
          have hr4 : BoolsAt w4.drew br bs := (hrd.but hb4 (by omega)).drewN 1
          have hB4 : Below w1.heap.size w1 w4 := hbd.trans (hb4.below hs1)
          obtain ⟨h14, h24⟩ := (hc1.below hB4).get j hlt
          rw [← HI.out] at h14
          rw [← HO.out] at h24
          clear hmd hrd hbd hm hr hbel h1 h2 hb4
          go_wp2
          go_region_with (go_at_call 16; refine (HS2.out _ hr4).mono ?_; rintro e w5 ⟨rfl, hr5, hb5⟩)
        all_goals
          have hm5 : MapB w5 (bw + 1) bw bs' := (hm4.drewN 1).but hb5 (by omega) (by omega)
          have hB5 : Below w1.heap.size w1 w5 := (below_drawn hB4 1).trans (hb5.below (by omega))
          have hT5 := hT1.below hB5 hp
          obtain ⟨h15, h25⟩ := (hc1.below hB5).get j hlt
          rw [← HI.out] at h15
          clear h25 h14 h24 hb5 hB4 hm4 hr4
          go_wp2
          go_quiet ((first
            | (go_at_call 17; exact (HG1.out _ (hm5.drewN _)).mono fun e w' h => ⟨h.1, _, h.2⟩)
            | (go_at_call 18; exact (HG2.out _ (hr5.drewN _)).mono fun e w' h => ⟨h.1, _, h.2⟩)
            | (go_at_call 19; exact (HCt1.out _ (hm5.drewN _)).mono fun e w' h => ⟨h.1, _, h.2⟩)
            | (go_at_call 20; exact (HCt2.out _ (hr5.drewN _)).mono fun e w' h => ⟨h.1, _, h.2⟩)
            | (go_at_call 21; exact (HN1.out _ (hm5.drewN _) (hT5.drewN _)).mono fun e w' h => ⟨h.1, _, h.2⟩)
            | (go_at_call 22; exact (HN2.out _ (hr5.drewN _)).mono fun e w' h => ⟨h.1, _, h.2⟩)))
          go_wp2
          go_roundw
          case rel => exact ⟨j + 1, by omega, by go_num, ⟨bs', HBS', hm5.drewN _, hr5.drewN _⟩, below_drawn hB5 _⟩
          case measure => simp [intOf]; omega
      · have hTr := hT1.below hbel hp
        have hBe : Below w.heap.size w wr := hb.trans (hbel.mono hb.size)
        obtain ⟨r, hn1, hn2⟩ := nexts_alike (bw + 1) bw br k bs x (!on) HBS.out hkl hx
        have HN1 := (show Hid _ from hn1)
        have HN2 := (show Hid _ from hn2)
        have hrr : (r == r) = true := by simp
        clear hn1 hn2 hbel hc1 hb hT1
        go_wp2_with fail
        refine (HN1.out _ hm hTr).mono ?_
        rintro e wq ⟨rfl, rfl⟩
        go_wp2_with fail
        refine (HN2.out _ hr).mono ?_
        rintro e wq ⟨rfl, rfl⟩
        go_wp2_with fail
        go_ret
        exact ⟨rfl, hBe⟩

theorem sets_walk (x0 : Int) (a1 : Option Addr) (cap1 : Nat) (l1 : List (Int × Bool)) (x2 : Int) (b3 : Bool) (w : World) (hT : Tab w) (_ : -9223372036854775808 ≤ x0 ∧ x0 ≤ 9223372036854775807) (t1 : ActsAt w a1 l1) (_ : True) (n1 : l1.length * 16 ≤ 140737488351232) (_ : a1 = none → cap1 = 0)
    (w2 : -9223372036854775808 ≤ x2 ∧ x2 ≤ 9223372036854775807) :
    Calls Tryd.prog 3 #[.int .i64 x0, .slice a1 l1.length cap1, .int .i64 x2, .bool b3] w fun e w' => e = .returned (.bool true) ∧ Below w.heap.size w w' := by
  by_cases h : (500 < x0 ∧ x0 ≤ 65536) ∨ 100 < l1.length
  · exact sets_out x0 a1 cap1 _ x2 b3 w hT (by omega) h
  · by_cases h0 : x0 < 0
    · exact sets_in x0 0 a1 cap1 l1 x2 b3 w hT (Or.inl ⟨h0, rfl⟩) (by omega) t1 w2.2
    · by_cases h5 : x0 ≤ 500
      · exact sets_in x0 x0.toNat a1 cap1 l1 x2 b3 w hT (Or.inr (Or.inl ⟨by omega, by omega⟩)) (by omega) t1 w2.2
      · exact sets_in x0 65536 a1 cap1 l1 x2 b3 w hT (Or.inr (Or.inr ⟨by omega, rfl⟩)) (by omega) t1 w2.2

end Go.Proofs.YtnhlafifmiiliaaDoor
