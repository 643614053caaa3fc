/-
  The law PoolDoes, walked: for every input it answers true.
-/
import Derived.Test.YtijoocoacaogoaaDoorLRuns
import Derived.Deep.CutBlock
import Derived.Deep.DeepCutAuto
namespace Go.Proofs.YtijoocoacaogoaaDoor
open Go.RowKit

/-- The program's pool and the document's, side by side. -/
structure Both (B : Nat) (w0 w : World) (p1 p2 p3 r1 r2 : Nat) (bs cs : List Bool) : Prop where
  p : Pl B w0 w p1 p2 p3 bs
  r : RefIs w r1 r2 cs
  lo : B ≤ r2
  a1 : r1 ≠ p3
  a2 : r2 ≠ p3
  b1 : p1 ≠ r2
  b2 : p2 ≠ r2
theorem Both.drewN {B : Nat} {w0 w : World} {p1 p2 p3 r1 r2 : Nat} {bs cs : List Bool} (h : Both B w0 w p1 p2 p3 r1 r2 bs cs) (n : Nat) : Both B w0 (w.drewN n) p1 p2 p3 r1 r2 bs cs :=
  ⟨h.p.drewN n, h.r.drewN n, h.lo, h.a1, h.a2, h.b1, h.b2⟩
theorem Both.left {B : Nat} {w0 w w' : World} {p1 p2 p3 r1 r2 : Nat} {bs bs' cs : List Bool} (h : Both B w0 w p1 p2 p3 r1 r2 bs cs) (hp : PoolIs w' p1 p2 p3 bs') (hb : But p3 w w') : Both B w0 w' p1 p2 p3 r1 r2 bs' cs :=
  ⟨h.p.turn hp hb, h.r.but hb h.a1 h.a2, h.lo, h.a1, h.a2, h.b1, h.b2⟩
theorem Both.right {B : Nat} {w0 w w' : World} {p1 p2 p3 r1 r2 : Nat} {bs cs cs' : List Bool} (h : Both B w0 w p1 p2 p3 r1 r2 bs cs) (hr : RefIs w' r1 r2 cs') (hb : But r2 w w') : Both B w0 w' p1 p2 p3 r1 r2 bs cs' :=
  ⟨⟨h.p.pool.but hb h.b1 h.b2 (Ne.symm h.a2), h.p.bel.trans (hb.below h.lo), h.p.tab.but hb (by have := h.lo; have := h.p.pos; omega), h.p.lo, h.p.pos⟩, hr, h.lo, h.a1, h.a2, h.b1, h.b2⟩
theorem both_new (n : Int) (k : Nat) (w0 w : World) (p1 p2 p3 : Nat) (bs : List Bool) (hp : Pl w0.heap.size w0 w p1 p2 p3 bs) (hk : n < 0 ∧ k = 0 ∨ n = k ∧ k ≤ 1024 ∨ 1024 < n ∧ k = 1024) :
    Calls Tryd.prog 11 #[.int .i64 n] w fun e w' => ∃ r1 r2, e = .returned (.pointer (some ⟨r1, 0, none⟩)) ∧ Both w0.heap.size w0 w' p1 p2 p3 r1 r2 bs (List.replicate k false) := by
  refine (rnew n k w hk).mono ?_
  rintro e w' ⟨⟨r1, r2, rfl, h1, h2, h4⟩, h5⟩
  have hlt := hp.pool.lt
  have hb : Below w0.heap.size w0 w' := hp.bel.trans (h5.mono hp.bel.size)
  have hT : Tab w' := hp.tab.below h5 hp.tab.pos
  have := hp.bel.size
  exact ⟨r1, r2, rfl, ⟨hp.pool.below h5 hlt.1 hlt.2.1 hlt.2.2.1, hb, hT, hp.lo, hp.pos⟩, h4, by omega, by omega, by omega, by omega, by omega⟩

section
variable {B : Nat} {w0 w : World} {p1 p2 p3 r1 r2 : Nat} {bs cs : List Bool}
theorem take3p (h : Both B w0 w p1 p2 p3 r1 r2 bs cs) :
    Calls Tryd.prog 12 #[.pointer (some ⟨p1, 0, none⟩)] w fun e w' => e = .returned (.tuple #[.int .i64 (runOf bs 1).1, .int .i64 (runOf bs 1).2.1]) ∧ Both B w0 w' p1 p2 p3 r1 r2 (runOf bs 1).2.2 cs :=
  (ptake p1 p2 p3 bs w h.p.pool h.p.tab).mono fun _ _ ⟨a, b, c⟩ => ⟨a, h.left b c⟩
theorem take3r (h : Both B w0 w p1 p2 p3 r1 r2 bs cs) :
    Calls Tryd.prog 13 #[.pointer (some ⟨r1, 0, none⟩)] w fun e w' => e = .returned (.tuple #[.int .i64 (runOf cs 1).1, .int .i64 (runOf cs 1).2.1]) ∧ Both B w0 w' p1 p2 p3 r1 r2 bs (runOf cs 1).2.2 :=
  (rtake r1 r2 cs w h.r).mono fun _ _ ⟨a, b, c⟩ => ⟨a, h.right b c⟩
theorem run3p (n : Int) (h : Both B w0 w p1 p2 p3 r1 r2 bs cs) :
    Calls Tryd.prog 16 #[.pointer (some ⟨p1, 0, none⟩), .int .i64 n] w fun e w' => e = .returned (.tuple #[.int .i64 (runOf bs n).1, .int .i64 (runOf bs n).2.1]) ∧ Both B w0 w' p1 p2 p3 r1 r2 (runOf bs n).2.2 cs :=
  (prun p1 p2 p3 bs n w h.p.pool h.p.tab).mono fun _ _ ⟨a, b, c⟩ => ⟨a, h.left b c⟩
theorem run3r (n : Int) (hn : n ≤ 9223372036854775807) (h : Both B w0 w p1 p2 p3 r1 r2 bs cs) :
    Calls Tryd.prog 17 #[.pointer (some ⟨r1, 0, none⟩), .int .i64 n] w fun e w' => e = .returned (.tuple #[.int .i64 (runOf cs n).1, .int .i64 (runOf cs n).2.1]) ∧ Both B w0 w' p1 p2 p3 r1 r2 bs (runOf cs n).2.2 :=
  (rrun r1 r2 cs n w h.r hn).mono fun _ _ ⟨a, b, c⟩ => ⟨a, h.right b c⟩
theorem give3p (n : Int) (h : Both B w0 w p1 p2 p3 r1 r2 bs cs) :
    Calls Tryd.prog 14 #[.pointer (some ⟨p1, 0, none⟩), .int .i64 n] w fun e w' => e = .returned (.int .i64 (giveOf bs n).1) ∧ Both B w0 w' p1 p2 p3 r1 r2 (giveOf bs n).2 cs :=
  (pgive p1 p2 p3 bs n w h.p.pool).mono fun _ _ ⟨a, b, c⟩ => ⟨a, h.left b c⟩
theorem give3r (n : Int) (h : Both B w0 w p1 p2 p3 r1 r2 bs cs) :
    Calls Tryd.prog 15 #[.pointer (some ⟨r1, 0, none⟩), .int .i64 n] w fun e w' => e = .returned (.int .i64 (giveOf cs n).1) ∧ Both B w0 w' p1 p2 p3 r1 r2 bs (giveOf cs n).2 :=
  (rgive r1 r2 cs n w h.r).mono fun _ _ ⟨a, b, c⟩ => ⟨a, h.right b c⟩
end

set_option maxRecDepth 100000 in
theorem does_out (x0 : Int) (a : Option Addr) (cap m : Nat) (x2 x3 : Int) (w : World) (hT : Tab w) (hm : m ≤ 9223372036854775807) (h : (200 < x0 ∧ x0 < 1024) ∨ 80 < m) :
    Calls Tryd.prog 3 #[.int .i64 x0, .slice a m cap, .int .i64 x2, .int .i64 x3] w fun e w' => e = .returned (.bool true) ∧ Below w.heap.size w w' := by
  by_cases h1 : 200 < x0
  · by_cases h2 : x0 < 1024
    · clear h
      go_enter Tryd.func3, Tryd.ntmps3
      go_wp2_with (go_at_call 9; refine (works_any _ hT).mono ?_; rintro e w1 ⟨rfl, hb⟩)
      go_ret
      exact ⟨rfl, hb⟩
    · have h3 : 80 < m := by omega
      clear h
      go_enter Tryd.func3, Tryd.ntmps3
      go_wp2_with (go_at_call 9; refine (works_any _ hT).mono ?_; rintro e w1 ⟨rfl, hb⟩)
      go_ret
      exact ⟨rfl, hb⟩
  · have h3 : 80 < m := by omega
    clear h
    go_enter Tryd.func3, Tryd.ntmps3
    go_wp2_with (go_at_call 9; refine (works_any _ hT).mono ?_; rintro e w1 ⟨rfl, hb⟩)
    go_ret
    exact ⟨rfl, hb⟩

set_option maxRecDepth 100000 in
set_option maxHeartbeats 8000000 in
theorem does_in (n : Int) (k : Nat) (a : Option Addr) (cap : Nat) (l : List (Int × Int)) (x2 x3 : Int) (w : World) (hT : Tab w) (hk : n < 0 ∧ k = 0 ∨ n = k ∧ k ≤ 200 ∨ n = 1024 ∧ k = 1024 ∨ 1024 < n ∧ k = 1024) (hl : l.length ≤ 80) (hc : ActsAt w a l) (hf : ActsFit l) :
    Calls Tryd.prog 3 #[.int .i64 n, .slice a l.length cap, .int .i64 x2, .int .i64 x3] w fun e w' => e = .returned (.bool true) ∧ Below w.heap.size w w' := by
  have hd1 : decide ((80 : Int) < (l.length : Int)) = false := by simp; omega
  have HK : Hid (n < 0 ∧ k = 0 ∨ n = k ∧ k ≤ 1024 ∨ 1024 < n ∧ k = 1024) := by show _ ∨ _; omega
  have hkl : k ≤ 1024 := by have := HK.out; omega
  have hsplit : n ≤ 200 ∨ (200 < n ∧ 1024 ≤ n) := by omega
  clear hk
  rcases hsplit with hs | ⟨hs, hs'⟩
  all_goals
    go_enter Tryd.func3, Tryd.ntmps3
    go_wp2_with fail
    refine (works_any _ hT).mono ?_
    rintro e w1 ⟨rfl, hb⟩
    have hT1 := hT.below hb hT.pos
    go_wp2_with fail
    refine (newL n k w w1 hT1 hb hT.pos HK.out).mono ?_
    rintro e w2 ⟨p1, p2, p3, rfl, hp⟩
    clear hT1 hb
    go_wp2_with fail
    refine (both_new n k w w2 p1 p2 p3 _ hp HK.out).mono ?_
    rintro e w3 ⟨r1, r2, rfl, ht⟩
    clear hp
    go_wp2
    go_loopw [12] (fun i wr => ∃ j : Nat, j ≤ l.length ∧ i = .int .i64 j ∧ ∃ bs : List Bool, Hid (bs.length = k) ∧ Both w.heap.size w wr p1 p2 p3 r1 r2 bs bs) (fun i _ => l.length - (intOf i).toNat)
    case atStart => exact ⟨0, by omega, rfl, _, by show _ = _; simp, ht⟩
    case round =>
      clear ht
      obtain ⟨j, hj, rfl, bs, HBS, ht⟩ := hrel
      by_cases hlt : j < l.length
      · have hcr := hc.below ht.p.bel
        obtain ⟨b, off, rfl, h1, h2⟩ := hcr j hlt
        obtain ⟨f1, f2⟩ := hf j hlt
        obtain ⟨K, hK⟩ : ∃ K, K = l[j].1 := ⟨_, rfl⟩
        obtain ⟨Nn, hN⟩ : ∃ Nn, Nn = l[j].2 := ⟨_, rfl⟩
        rw [← hK] at h1 f1
        rw [← hN] at h2 f2
        have HN : Hid (Nn = l[j].2) := hN
        have hnn := f2.2
        clear hK hN f1
        go_upto_block 2 with fail
        go_cut [13, 14, 15, 16] (fun s13 s14 s15 s16 wx => ∃ R X : Int, s13 = .int .i64 R ∧ s14 = .int .i64 R ∧ s15 = .int .i64 X ∧ s16 = .int .i64 X ∧ ∃ bs' : List Bool, Hid (bs'.length = k) ∧ Both w.heap.size w wx p1 p2 p3 r1 r2 bs' bs')
        case first =>
          have HR : Hid (∀ n', (runOf bs n').2.2.length = k) := fun n' => by rw [runOf_len]; exact HBS.out
          have HG : Hid (∀ n', (giveOf bs n').2.length = k) := fun n' => by rw [giveOf_len]; exact HBS.out
          by_cases q0 : K.tmod 3 = 0
          · have hb0 : (K.tmod 3 == 0) = true := by simp [q0]
            clear q0 h1 h2
            go_wp2_with fail
            refine (take3p ht).mono ?_
            rintro e w4 ⟨rfl, h4⟩
            clear ht
            go_wp2_with fail
            refine (take3r h4).mono ?_
            rintro e w5 ⟨rfl, h5⟩
            clear h4
            go_wp2_with fail
            go_meet
            exact ⟨_, _, rfl, rfl, rfl, rfl, _, HR.out 1, h5⟩
          · have hb0 : (K.tmod 3 == 0) = false := by simp [q0]
            clear q0
            by_cases q1 : K.tmod 3 = 1
            · have hb1 : (K.tmod 3 == 1) = true := by simp [q1]
              clear q1
              go_wp2_with fail
              refine (give3p Nn ht).mono ?_
              rintro e w4 ⟨rfl, h4⟩
              obtain ⟨h14, h24⟩ := (hc.below h4.p.bel).get j hlt
              rw [← HN.out] at h24
              clear ht h1 h2 h14
              go_wp2_with fail
              refine (give3r Nn h4).mono ?_
              rintro e w5 ⟨rfl, h5⟩
              clear h4 h24
              go_wp2_with fail
              go_meet
              exact ⟨_, _, rfl, rfl, rfl, rfl, _, HG.out Nn, h5⟩
            · have hb1 : (K.tmod 3 == 1) = false := by simp [q1]
              clear q1
              by_cases q2 : K.tmod 3 = 2
              · have hb2 : (K.tmod 3 == 2) = true := by simp [q2]
                clear q2
                go_wp2_with fail
                refine (run3p Nn ht).mono ?_
                rintro e w4 ⟨rfl, h4⟩
                obtain ⟨h14, h24⟩ := (hc.below h4.p.bel).get j hlt
                rw [← HN.out] at h24
                clear ht h1 h2 h14
                go_wp2_with fail
                refine (run3r Nn hnn h4).mono ?_
                rintro e w5 ⟨rfl, h5⟩
                clear h4 h24
                go_wp2_with fail
                go_meet
                exact ⟨_, _, rfl, rfl, rfl, rfl, _, HR.out Nn, h5⟩
              · have hb2 : (K.tmod 3 == 2) = false := by simp [q2]
                clear q2 h1 h2
                go_wp2_with fail
                go_meet
                exact ⟨_, _, rfl, rfl, rfl, rfl, _, HBS, ht⟩
        case rest =>
          clear ht HBS h1 h2
          obtain ⟨R, X, rfl, rfl, rfl, rfl, bs', HBS', hw⟩ := hcut
          obtain ⟨h14, h24⟩ := (hc.below hw.p.bel).get j hlt
          rw [← HN.out] at h24
          have hcp := hw.r.cellp
          rw [HBS'.out] at hcp
          clear h14
          go_upto_region 24 with fail
          go_cut [18] (fun s18 wx => s18 = .bool (bget bs' Nn) ∧ wx = wc)
          case first =>
            have hbl := HBS'.out
            by_cases h0 : 0 ≤ Nn
            · obtain ⟨t, rfl⟩ := Int.eq_ofNat_of_zero_le h0
              by_cases h3 : t < k
              · have htl : t < bs'.length := by omega
                have hct := hw.r.l.cell t htl
                have HE : Hid (bget bs' t = bs'[t]) := by show _ = _; rw [bget_in]; simp [htl]
                clear hbl h0
                go_wp2_with fail
                go_meet
                exact ⟨by rw [HE.out], rfl⟩
              · have HE : Hid (bget bs' t = false) := bget_out (by omega)
                clear hbl h0
                go_wp2_with fail
                go_meet
                exact ⟨by rw [HE.out], rfl⟩
            · have HE : Hid (bget bs' Nn = false) := bget_out (by omega)
              clear hbl
              go_wp2_with fail
              go_meet
              exact ⟨by rw [HE.out], rfl⟩
          case rest =>
            obtain ⟨rfl, rfl⟩ := hcut
            obtain ⟨gi, hgi⟩ : ∃ gi, gi = bget bs' Nn := ⟨_, rfl⟩
            obtain ⟨F, hF⟩ : ∃ F, F = bs'.count false := ⟨_, rfl⟩
            obtain ⟨L, hL⟩ : ∃ L, L = levelOf F x2 x3 := ⟨_, rfl⟩
            have H1 : Hid (∀ w, PoolIs w p1 p2 p3 bs' → Calls Tryd.prog 18 #[.pointer (some ⟨p1, 0, none⟩)] w fun e w' => e = .returned (.int .i64 F) ∧ ∃ n, w' = w.drewN n) := fun w h => by rw [hF]; exact pfree _ _ _ bs' w h
            have H2 : Hid (∀ w, RefIs w r1 r2 bs' → Calls Tryd.prog 19 #[.pointer (some ⟨r1, 0, none⟩)] w fun e w' => e = .returned (.int .i64 F) ∧ w' = w) := fun w h => by rw [hF]; exact rfree _ _ bs' w h
            have H3 : Hid (∀ w, PoolIs w p1 p2 p3 bs' → Calls Tryd.prog 20 #[.pointer (some ⟨p1, 0, none⟩), .int .i64 Nn] w fun e w' => e = .returned (.bool gi) ∧ w' = w) := fun w h => by rw [hgi]; exact ptaken _ _ _ bs' Nn w h
            have H4 : Hid (∀ w, PoolIs w p1 p2 p3 bs' → Calls Tryd.prog 21 #[.pointer (some ⟨p1, 0, none⟩), .int .i64 x2, .int .i64 x3] w fun e w' => e = .returned (.int .i64 L) ∧ ∃ n, w' = w.drewN n) := fun w h => by rw [hL, hF]; exact plevel _ _ _ bs' x2 x3 w h
            have H5 : Hid (∀ w, RefIs w r1 r2 bs' → Calls Tryd.prog 22 #[.pointer (some ⟨r1, 0, none⟩), .int .i64 x2, .int .i64 x3] w fun e w' => e = .returned (.int .i64 L) ∧ w' = w) := fun w h => by rw [hL, hF]; exact rlevel _ _ bs' x2 x3 w h
            have H6 : Hid (∀ w, PoolIs w p1 p2 p3 bs' → Calls Tryd.prog 23 #[.pointer (some ⟨p1, 0, none⟩)] w fun e w' => e = .returned (.int .i64 k) ∧ w' = w) := fun w h => by
              have := plen _ _ _ bs' w h
              rw [HBS'.out] at this
              exact this
            have e1 : (R != R) = false := by simp
            have e2 : (X != X) = false := by simp
            have e3 : ((F : Int) != (F : Int)) = false := by simp
            have e4 : (gi != gi) = false := by simp
            have e5 : (L != L) = false := by simp
            have e6 : ((k : Int) != (k : Int)) = false := by simp
            rw [← hgi]
            clear hgi hF hL h24
            have hpp := hw.p.pool
            have hrr := hw.r
            go_wp2
            go_quiet ((first
              | (go_at_call 18; exact (H1.out _ (hpp.drewN _)).mono fun e w' h => ⟨h.1, h.2.elim fun m hm => ⟨_, hm.trans (drewN_add _ _ _)⟩⟩)
              | (go_at_call 19; exact (H2.out _ (hrr.drewN _)).mono fun e w' h => ⟨h.1, _, h.2⟩)
              | (go_at_call 20; exact (H3.out _ (hpp.drewN _)).mono fun e w' h => ⟨h.1, _, h.2⟩)
              | (go_at_call 21; exact (H4.out _ (hpp.drewN _)).mono fun e w' h => ⟨h.1, h.2.elim fun m hm => ⟨_, hm.trans (drewN_add _ _ _)⟩⟩)
              | (go_at_call 22; exact (H5.out _ (hrr.drewN _)).mono fun e w' h => ⟨h.1, _, h.2⟩)
              | (go_at_call 23; exact (H6.out _ (hpp.drewN _)).mono fun e w' h => ⟨h.1, _, h.2⟩)))
            go_wp2
            go_roundw
            case rel => exact ⟨j + 1, by omega, by go_num, bs', HBS', hw.drewN _⟩
            case measure => simp [intOf]; omega
      · have HB : Hid (Below w.heap.size w wr) := ht.p.bel
        have hcp := ht.r.cellp
        rw [HBS.out] at hcp
        have H6 : Hid (∀ w, PoolIs w p1 p2 p3 bs → Calls Tryd.prog 23 #[.pointer (some ⟨p1, 0, none⟩)] w fun e w' => e = .returned (.int .i64 k) ∧ w' = w) := fun w h => by
          have := plen _ _ _ bs w h
          rw [HBS.out] at this
          exact this
        have e6 : ((k : Int) == (k : Int)) = true := by simp
        have hpp := ht.p.pool
        clear ht hc hf
        go_wp2
        go_quiet ((go_at_call 23; exact (H6.out _ (hpp.drewN _)).mono fun e w' h => ⟨h.1, _, h.2⟩))
        go_wp2
        go_ret
        exact ⟨rfl, below_drawn HB.out _⟩

theorem does_walk (x0 : Int) (a1 : Option Addr) (cap1 : Nat) (l1 : List (Int × Int)) (x2 x3 : Int) (w : World) (hT : Tab w) (_ : -9223372036854775808 ≤ x0 ∧ x0 ≤ 9223372036854775807) (t1 : ActsAt w a1 l1) (i1 : ActsFit l1) (n1 : l1.length * 16 ≤ 140737488351232) (_ : a1 = none → cap1 = 0)
    (_ : -9223372036854775808 ≤ x2 ∧ x2 ≤ 9223372036854775807) (_ : -9223372036854775808 ≤ x3 ∧ x3 ≤ 9223372036854775807) :
    Calls Tryd.prog 3 #[.int .i64 x0, .slice a1 l1.length cap1, .int .i64 x2, .int .i64 x3] w fun e w' => e = .returned (.bool true) ∧ Below w.heap.size w w' := by
  by_cases h : (200 < x0 ∧ x0 < 1024) ∨ 80 < l1.length
  · exact does_out x0 a1 cap1 _ x2 x3 w hT (by omega) h
  · by_cases h0 : x0 < 0
    · exact does_in x0 0 a1 cap1 l1 x2 x3 w hT (Or.inl ⟨h0, rfl⟩) (by omega) t1 i1
    · by_cases h5 : x0 ≤ 200
      · exact does_in x0 x0.toNat a1 cap1 l1 x2 x3 w hT (Or.inr (Or.inl ⟨by omega, by omega⟩)) (by omega) t1 i1
      · exact does_in x0 1024 a1 cap1 l1 x2 x3 w hT (by omega) (by omega) t1 i1

end Go.Proofs.YtijoocoacaogoaaDoor
