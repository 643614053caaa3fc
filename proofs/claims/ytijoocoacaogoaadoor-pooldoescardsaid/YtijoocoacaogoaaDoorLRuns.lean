/-
  The law PoolRuns, walked: for every input it answers true.
-/
import Derived.Test.YtijoocoacaogoaaDoorLOnce
namespace Go.Proofs.YtijoocoacaogoaaDoor
open Go.RowKit

/-- Two pools, made one behind the other. -/
structure Two (B : Nat) (w0 w : World) (p1 p2 p3 q1 q2 q3 : Nat) (bs cs : List Bool) : Prop where
  p : Pl B w0 w p1 p2 p3 bs
  q : Pl B w0 w q1 q2 q3 cs
  a1 : q1 ≠ p3
  a2 : q2 ≠ p3
  a3 : q3 ≠ p3
  b1 : p1 ≠ q3
  b2 : p2 ≠ q3
theorem Two.drewN {B : Nat} {w0 w : World} {p1 p2 p3 q1 q2 q3 : Nat} {bs cs : List Bool} (h : Two B w0 w p1 p2 p3 q1 q2 q3 bs cs) (n : Nat) : Two B w0 (w.drewN n) p1 p2 p3 q1 q2 q3 bs cs :=
  ⟨h.p.drewN n, h.q.drewN n, h.a1, h.a2, h.a3, h.b1, h.b2⟩
theorem Two.left {B : Nat} {w0 w w' : World} {p1 p2 p3 q1 q2 q3 : Nat} {bs bs' cs : List Bool} (h : Two B w0 w p1 p2 p3 q1 q2 q3 bs cs) (hp : PoolIs w' p1 p2 p3 bs') (hb : But p3 w w') : Two B w0 w' p1 p2 p3 q1 q2 q3 bs' cs := by
  have hp' := h.p.turn hp hb
  exact ⟨hp', ⟨h.q.pool.but hb h.a1 h.a2 h.a3, hp'.bel, hp'.tab, h.q.lo, h.q.pos⟩, h.a1, h.a2, h.a3, h.b1, h.b2⟩
theorem Two.right {B : Nat} {w0 w w' : World} {p1 p2 p3 q1 q2 q3 : Nat} {bs cs cs' : List Bool} (h : Two B w0 w p1 p2 p3 q1 q2 q3 bs cs) (hq : PoolIs w' q1 q2 q3 cs') (hb : But q3 w w') : Two B w0 w' p1 p2 p3 q1 q2 q3 bs cs' := by
  have hq' := h.q.turn hq hb
  exact ⟨⟨h.p.pool.but hb h.b1 h.b2 (Ne.symm h.a3), hq'.bel, hq'.tab, h.p.lo, h.p.pos⟩, hq', h.a1, h.a2, h.a3, h.b1, h.b2⟩

theorem two_new (n : Int) (k : Nat) (w0 w : World) (p1 p2 p3 : Nat) (bs : List Bool) (hp : Pl w0.heap.size w0 w p1 p2 p3 bs) (hk : n < 0 ∧ k = 0 ∨ n = k ∧ k ≤ 1024 ∨ 1024 < n ∧ k = 1024) :
    Calls Tryd.prog 10 #[.int .i64 n] w fun e w' => ∃ q1 q2 q3, e = .returned (.pointer (some ⟨q1, 0, none⟩)) ∧ Two w0.heap.size w0 w' p1 p2 p3 q1 q2 q3 bs (List.replicate k false) := by
  refine (pnew n k w hk).mono ?_
  rintro e w' ⟨⟨q1, q2, q3, rfl, h1, h2, h3, h4⟩, h5⟩
  have hlt := hp.pool.lt
  have hb : Below w0.heap.size w0 w' := hp.bel.trans (h5.mono hp.bel.size)
  have hT : Tab w' := hp.tab.below h5 hp.tab.pos
  exact ⟨q1, q2, q3, rfl, ⟨hp.pool.below h5 hlt.1 hlt.2.1 hlt.2.2.1, hb, hT, hp.lo, hp.pos⟩, ⟨h4, hb, hT, Nat.le_trans hp.bel.size h3, hp.pos⟩, by omega, by omega, by omega, by omega, by omega⟩

theorem run2p {B : Nat} {w0 w : World} {p1 p2 p3 q1 q2 q3 : Nat} {bs cs : List Bool} (n : Int) (h : Two B w0 w p1 p2 p3 q1 q2 q3 bs cs) :
    Calls Tryd.prog 16 #[.pointer (some ⟨p1, 0, none⟩), .int .i64 n] w fun e w' => e = .returned (.tuple #[.int .i64 (runOf bs n).1, .int .i64 (runOf bs n).2.1]) ∧ Two B w0 w' p1 p2 p3 q1 q2 q3 (runOf bs n).2.2 cs :=
  (prun p1 p2 p3 bs n w h.p.pool h.p.tab).mono fun _ _ ⟨a, b, c⟩ => ⟨a, h.left b c⟩
theorem run2q {B : Nat} {w0 w : World} {p1 p2 p3 q1 q2 q3 : Nat} {bs cs : List Bool} (n : Int) (h : Two B w0 w p1 p2 p3 q1 q2 q3 bs cs) :
    Calls Tryd.prog 16 #[.pointer (some ⟨q1, 0, none⟩), .int .i64 n] w fun e w' => e = .returned (.tuple #[.int .i64 (runOf cs n).1, .int .i64 (runOf cs n).2.1]) ∧ Two B w0 w' p1 p2 p3 q1 q2 q3 bs (runOf cs n).2.2 :=
  (prun q1 q2 q3 cs n w h.q.pool h.q.tab).mono fun _ _ ⟨a, b, c⟩ => ⟨a, h.right b c⟩
theorem give2p {B : Nat} {w0 w : World} {p1 p2 p3 q1 q2 q3 : Nat} {bs cs : List Bool} (n : Int) (h : Two B w0 w p1 p2 p3 q1 q2 q3 bs cs) :
    Calls Tryd.prog 14 #[.pointer (some ⟨p1, 0, none⟩), .int .i64 n] w fun e w' => e = .returned (.int .i64 (giveOf bs n).1) ∧ Two B w0 w' p1 p2 p3 q1 q2 q3 (giveOf bs n).2 cs :=
  (pgive p1 p2 p3 bs n w h.p.pool).mono fun _ _ ⟨a, b, c⟩ => ⟨a, h.left b c⟩
theorem give2q {B : Nat} {w0 w : World} {p1 p2 p3 q1 q2 q3 : Nat} {bs cs : List Bool} (n : Int) (h : Two B w0 w p1 p2 p3 q1 q2 q3 bs cs) :
    Calls Tryd.prog 14 #[.pointer (some ⟨q1, 0, none⟩), .int .i64 n] w fun e w' => e = .returned (.int .i64 (giveOf cs n).1) ∧ Two B w0 w' p1 p2 p3 q1 q2 q3 bs (giveOf cs n).2 :=
  (pgive q1 q2 q3 cs n w h.q.pool).mono fun _ _ ⟨a, b, c⟩ => ⟨a, h.right b c⟩
theorem free2p {B : Nat} {w0 w : World} {p1 p2 p3 q1 q2 q3 : Nat} {bs cs : List Bool} (h : Two B w0 w p1 p2 p3 q1 q2 q3 bs cs) :
    Calls Tryd.prog 18 #[.pointer (some ⟨p1, 0, none⟩)] w fun e w' => e = .returned (.int .i64 (bs.count false)) ∧ Two B w0 w' p1 p2 p3 q1 q2 q3 bs cs :=
  (pfree p1 p2 p3 bs w h.p.pool).mono fun _ _ ⟨a, n, b⟩ => ⟨a, by rw [b]; exact h.drewN n⟩
theorem taken2p {B : Nat} {w0 w : World} {p1 p2 p3 q1 q2 q3 : Nat} {bs cs : List Bool} (i : Int) (h : Two B w0 w p1 p2 p3 q1 q2 q3 bs cs) :
    Calls Tryd.prog 20 #[.pointer (some ⟨p1, 0, none⟩), .int .i64 i] w fun e w' => e = .returned (.bool (bget bs i)) ∧ Two B w0 w' p1 p2 p3 q1 q2 q3 bs cs :=
  (ptaken p1 p2 p3 bs i w h.p.pool).mono fun _ _ ⟨a, b⟩ => ⟨a, by rw [b]; exact h⟩
theorem taken2q {B : Nat} {w0 w : World} {p1 p2 p3 q1 q2 q3 : Nat} {bs cs : List Bool} (i : Int) (h : Two B w0 w p1 p2 p3 q1 q2 q3 bs cs) :
    Calls Tryd.prog 20 #[.pointer (some ⟨q1, 0, none⟩), .int .i64 i] w fun e w' => e = .returned (.bool (bget cs i)) ∧ Two B w0 w' p1 p2 p3 q1 q2 q3 bs cs :=
  (ptaken q1 q2 q3 cs i w h.q.pool).mono fun _ _ ⟨a, b⟩ => ⟨a, by rw [b]; exact h⟩

/-- Where there is room for so many, there is room for fewer, and no later. -/
theorem room_less {bs : List Bool} {k j m : Nat} (h : IsRoom bs k j) (hm : m ≤ k) : ∃ i : Nat, i ≤ j ∧ IsRoom bs m i := by
  obtain ⟨f1, f2⟩ := room_free h
  have hr := room_is bs m
  rcases hr with ⟨e, hr⟩ | ⟨i, e, r1, r2, r3⟩
  · obtain ⟨t, t1, t2, t3⟩ := hr j (by omega)
    rw [f2 t t1 (by omega)] at t3
    cases t3
  · refine ⟨i, ?_, Or.inr ⟨i, rfl, r1, r2, r3⟩⟩
    by_cases c : i ≤ j
    · exact c
    · obtain ⟨t, t1, t2, t3⟩ := r3 j (by omega)
      rw [f2 t t1 (by omega)] at t3
      cases t3

set_option maxRecDepth 100000 in
theorem runs_out (x0 : Int) (a : Option Addr) (cap m : Nat) (x2 : Int) (w : World) (hT : Tab w) (hm : m ≤ 9223372036854775807) (h : x0 < 0 ∨ 200 < x0 ∨ 80 < m ∨ x2 < 1 ∨ 300 < x2) :
    Calls Tryd.prog 5 #[.int .i64 x0, .slice a m cap, .int .i64 x2] w fun e w' => e = .returned (.bool true) ∧ Below w.heap.size w w' := by
  by_cases h1 : x0 < 0
  · clear h
    go_enter Tryd.func5, Tryd.ntmps5
    go_wp2_with (go_at_call 9; refine (works_any _ hT).mono ?_; rintro e w1 ⟨rfl, hb⟩)
    go_ret
    exact ⟨rfl, hb⟩
  · by_cases h2 : 200 < x0
    · clear h
      go_enter Tryd.func5, Tryd.ntmps5
      go_wp2_with (go_at_call 9; refine (works_any _ hT).mono ?_; rintro e w1 ⟨rfl, hb⟩)
      go_ret
      exact ⟨rfl, hb⟩
    · by_cases h3 : 80 < m
      · clear h
        go_enter Tryd.func5, Tryd.ntmps5
        go_wp2_with (go_at_call 9; refine (works_any _ hT).mono ?_; rintro e w1 ⟨rfl, hb⟩)
        go_ret
        exact ⟨rfl, hb⟩
      · by_cases h4 : x2 < 1
        · clear h
          go_enter Tryd.func5, Tryd.ntmps5
          go_wp2_with (go_at_call 9; refine (works_any _ hT).mono ?_; rintro e w1 ⟨rfl, hb⟩)
          go_ret
          exact ⟨rfl, hb⟩
        · have h5 : 300 < x2 := by omega
          clear h
          go_enter Tryd.func5, Tryd.ntmps5
          go_wp2_with (go_at_call 9; refine (works_any _ hT).mono ?_; rintro e w1 ⟨rfl, hb⟩)
          go_ret
          exact ⟨rfl, hb⟩

theorem ints_get {w : World} {b off : Nat} {l : List Int} (h : IntsAt w (some ⟨b, off, none⟩) l) (i : Nat) (hi : i < l.length) : w.cell? ⟨b, off + i, none⟩ = some (.int .i64 (l.getD i 0)) := by
  obtain ⟨b', off', e, hc⟩ := h i hi
  obtain ⟨rfl, rfl⟩ : b = b' ∧ off = off' := by simpa using e
  simpa using hc

set_option maxRecDepth 100000 in
set_option maxHeartbeats 8000000 in
theorem runs_in (n : Nat) (a : Option Addr) (cap : Nat) (l : List Int) (k : Nat) (w : World) (hT : Tab w) (hn : n ≤ 200) (hl : l.length ≤ 80) (hk1 : 1 ≤ k) (hk : k ≤ 300) (hc : IntsAt w a l) :
    Calls Tryd.prog 5 #[.int .i64 n, .slice a l.length cap, .int .i64 k] w fun e w' => e = .returned (.bool true) ∧ Below w.heap.size w w' := by
  have hd1 : decide ((80 : Int) < (l.length : Int)) = false := by simp; omega
  have hd2 : decide ((200 : Int) < (n : Int)) = false := by simp; omega
  have hd3 : decide ((n : Int) < 0) = false := by simp
  have hd4 : decide ((k : Int) < 1) = false := by simp; omega
  have hd5 : decide ((300 : Int) < (k : Int)) = false := by simp; omega
  go_enter Tryd.func5, Tryd.ntmps5
  go_wp2_with fail
  refine (works_any _ hT).mono ?_
  rintro e w1 ⟨rfl, hb⟩
  have hT1 := hT.below hb hT.pos
  go_wp2_with fail
  refine (newL n n w w1 hT1 hb hT.pos (Or.inr (Or.inl ⟨rfl, by omega⟩))).mono ?_
  rintro e w2 ⟨p1, p2, p3, rfl, hp⟩
  clear hT1 hb hT
  go_wp2_with fail
  refine (two_new n n w w2 p1 p2 p3 _ hp (Or.inr (Or.inl ⟨rfl, by omega⟩))).mono ?_
  rintro e w3 ⟨q1, q2, q3, rfl, ht⟩
  clear hp
  go_wp2
  go_loopw [10] (fun i wr => ∃ j : Nat, j ≤ l.length ∧ i = .int .i64 j ∧ ∃ bs : List Bool, Hid (bs.length = n) ∧ Two w.heap.size w wr p1 p2 p3 q1 q2 q3 bs bs) (fun i _ => l.length - (intOf i).toNat)
  case atStart => exact ⟨0, by omega, rfl, _, by show _ = _; simp, ht⟩
  case round =>
    clear ht
    obtain ⟨j, hj, rfl, bs, HBS, ht⟩ := hrel
    by_cases hlt : j < l.length
    · have hcr := hc.below ht.p.bel
      obtain ⟨b, off, rfl, h1⟩ := hcr j hlt
      obtain ⟨V, hV⟩ : ∃ V, V = l.getD j 0 := ⟨_, rfl⟩
      have hcell := ints_get hcr j hlt
      rw [← hV] at hcell
      have HV : Hid (V = l.getD j 0) := hV
      have HR : Hid ((runOf bs V).2.2.length = n) := by show _ = _; rw [runOf_len]; exact HBS.out
      clear h1 hV hcr
      by_cases hv1 : V < 1
      · have HB : Hid (Below w.heap.size w wr) := ht.p.bel
        clear ht
        go_wp2
        go_ret
        exact ⟨rfl, HB.out⟩
      · go_wp2_with fail
        refine (run2p V ht).mono ?_
        rintro e w4 ⟨rfl, h4⟩
        have hc4 := ints_get (hc.below h4.p.bel) j hlt
        rw [← HV.out] at hc4
        clear ht hcell
        go_wp2_with fail
        refine (run2q V h4).mono ?_
        rintro e w5 ⟨rfl, h5⟩
        clear h4 hc4
        go_wp2_with fail
        go_roundw
        case rel => exact ⟨j + 1, by omega, by go_num, _, HR, h5⟩
        case measure => simp [intOf]; omega
    · go_wp2
      go_loopw [11] (fun i wr => ∃ j : Nat, j ≤ l.length + 1 ∧ i = .int .i64 j ∧ ∃ bs : List Bool, Hid (bs.length = n) ∧ Two w.heap.size w wr p1 p2 p3 q1 q2 q3 bs bs) (fun i _ => l.length + 2 - (intOf i).toNat)
      case atStart => exact ⟨0, by omega, rfl, bs, HBS, ht⟩
      case round =>
        clear ht HBS hlt
        obtain ⟨j, hj, rfl, bs, HBS, ht⟩ := hrel
        by_cases hlt : j < l.length
        · have hcr := hc.below ht.p.bel
          obtain ⟨b, off, rfl, h1⟩ := hcr j hlt
          obtain ⟨V, hV⟩ : ∃ V, V = l.getD j 0 := ⟨_, rfl⟩
          have hcell := ints_get hcr j hlt
          rw [← hV] at hcell
          have HV : Hid (V = l.getD j 0) := hV
          have HR : Hid ((giveOf bs V).2.length = n) := by show _ = _; rw [giveOf_len]; exact HBS.out
          clear h1 hV hcr
          go_wp2_with fail
          refine (give2p V ht).mono ?_
          rintro e w4 ⟨rfl, h4⟩
          have hc4 := ints_get (hc.below h4.p.bel) j hlt
          rw [← HV.out] at hc4
          clear ht hcell
          go_wp2_with fail
          refine (give2q V h4).mono ?_
          rintro e w5 ⟨rfl, h5⟩
          clear h4 hc4
          go_wp2_with fail
          go_roundw
          case rel => exact ⟨j + 2, by omega, by go_num, _, HR, h5⟩
          case measure => simp [intOf]; omega
        · clear hc
          go_wp2_with fail
          refine (free2p ht).mono ?_
          rintro e w4 ⟨rfl, h4⟩
          clear ht
          rcases runOf_cases bs k with ⟨c, -⟩ | ⟨m, c1, -, c2, c3⟩ | ⟨m, t, c1, -, c2, c4, c3⟩
          · omega
          · obtain rfl : k = m := by omega
            have HRn : Hid (runOf bs k = (-1, 3, bs)) := c3
            obtain ⟨F, hF⟩ : ∃ F, F = bs.count false := ⟨_, rfl⟩
            have HFF : Hid (F = bs.count false) := hF
            have hff : ((F : Int) == (F : Int)) = true := by simp
            rw [← hF]
            clear c1 c2 c3 hF
            go_wp2_with fail
            refine (run2p k h4).mono ?_
            rintro e w5 ⟨rfl, h5⟩
            rw [HRn.out] at h5 ⊢
            clear h4 HRn
            go_wp2_with fail
            refine (free2p h5).mono ?_
            rintro e w6 ⟨rfl, h6⟩
            rw [← HFF.out]
            have HB : Hid (Below w.heap.size w w6) := h6.p.bel
            clear h5 h6 HFF
            go_wp2_with fail
            go_ret
            exact ⟨rfl, HB.out⟩
          · obtain rfl : k = m := by omega
            have HRn : Hid (runOf bs k = ((t : Int), 0, fill bs t k)) := c3
            obtain ⟨r1, r2⟩ := run_free c2
            obtain ⟨i0, i1, i2⟩ := room_less c2 (m := (k + 1) / 2) (by omega)
            have HR2 : Hid (runOf bs (((k : Int) + 1) / 2) = ((i0 : Int), 0, fill bs i0 ((k + 1) / 2))) := by
              have := runOf_ok (n := (k + 1) / 2) (by omega) i2
              rw [show (((k + 1) / 2 : Nat) : Int) = ((k : Int) + 1) / 2 by omega] at this
              exact this
            have HQ : Hid (∀ i : Nat, t ≤ i → i < t + k → bget bs i = false) := fun i a b => by rw [bget_in]; exact (room_free c2).2 i a b
            have HP : Hid (∀ i : Nat, t ≤ i → i < t + k → bget (fill bs t k) i = true) := fun i a b => by rw [bget_in, fill_get _ _ _ _ c4, if_pos ⟨a, b⟩]
            have htn : t + k ≤ n := by have := HBS.out; omega
            obtain ⟨F, hF⟩ : ∃ F, F = bs.count false := ⟨_, rfl⟩
            obtain ⟨fs, hfs⟩ : ∃ fs, fs = fill bs t k := ⟨_, rfl⟩
            rw [← hF] at r1 ⊢
            rw [← hfs] at r1 HP HRn
            have HFF : Hid ((fs.count false : Int) = (F : Int) - (k : Int)) := by show _ = _; omega
            have hFn : F ≤ n := by rw [hF, ← HBS.out]; exact List.count_le_length
            have hmm : Int.tdiv ((k : Int) + 1) 2 = (((k + 1) / 2 : Nat) : Int) := by
              rw [Int.tdiv_eq_ediv_of_nonneg (by omega)]; omega
            have hfin : ((F : Int) - (k : Int) == (F : Int) - (k : Int)) = true := by simp
            have HI1 : Hid (decide (i0 ≤ t) = true) := decide_eq_true i1
            clear c1 c2 c3 c4 r1 r2 i1 i2 hF hfs
            go_wp2_with fail
            refine (run2p k h4).mono ?_
            rintro e w5 ⟨rfl, h5⟩
            rw [HRn.out] at h5 ⊢
            clear h4 HRn
            go_wp2
            go_loopw [15] (fun iv wr => ∃ i : Nat, t ≤ i ∧ i ≤ t + k ∧ iv = .int .i64 i ∧ Two w.heap.size w wr p1 p2 p3 q1 q2 q3 fs bs) (fun iv _ => t + k - (intOf iv).toNat)
            case atStart => exact ⟨t, by omega, by omega, rfl, h5⟩
            case round =>
              clear h5
              obtain ⟨i, g1, g2, rfl, h5⟩ := hrel
              by_cases hik : i < t + k
              · have e1 : Hid (bget bs i = false) := HQ.out i g1 hik
                have e2 : Hid (bget fs i = true) := HP.out i g1 hik
                go_wp2_with fail
                refine (taken2q i h5).mono ?_
                rintro e w6 ⟨rfl, h6⟩
                rw [e1.out]
                clear h5 e1
                go_wp2_with fail
                refine (taken2p i h6).mono ?_
                rintro e w7 ⟨rfl, h7⟩
                rw [e2.out]
                clear h6 e2
                go_wp2_with fail
                go_roundw
                case rel => exact ⟨i + 1, by omega, by omega, by go_num, h7⟩
                case measure => simp [intOf]; omega
              · obtain rfl : i = t + k := by omega
                go_wp2_with fail
                refine (run2q _ h5).mono ?_
                rintro e w6 ⟨rfl, h6⟩
                rw [HR2.out] at h6 ⊢
                clear h5 HR2
                go_wp2_with fail
                refine (free2p h6).mono ?_
                rintro e w7 ⟨rfl, h7⟩
                rw [HFF.out]
                have HB : Hid (Below w.heap.size w w7) := h7.p.bel
                clear h6 h7 HFF
                go_wp2_with fail
                go_ret
                exact ⟨congrArg (fun b => Ending.returned (Value.bool b)) HI1.out, HB.out⟩

theorem runs_walk (x0 : Int) (a1 : Option Addr) (cap1 : Nat) (l1 : List Int) (x2 : Int) (w : World) (hT : Tab w) (_ : -9223372036854775808 ≤ x0 ∧ x0 ≤ 9223372036854775807) (t1 : IntsAt w a1 l1) (_ : I64s l1) (n1 : l1.length * 8 ≤ 140737488351232) (_ : a1 = none → cap1 = 0)
    (_ : -9223372036854775808 ≤ x2 ∧ x2 ≤ 9223372036854775807) :
    Calls Tryd.prog 5 #[.int .i64 x0, .slice a1 l1.length cap1, .int .i64 x2] w fun e w' => e = .returned (.bool true) ∧ Below w.heap.size w w' := by
  by_cases h : x0 < 0 ∨ 200 < x0 ∨ 80 < l1.length ∨ x2 < 1 ∨ 300 < x2
  · exact runs_out x0 a1 cap1 _ x2 w hT (by omega) h
  · obtain ⟨n, rfl⟩ := Int.eq_ofNat_of_zero_le (show 0 ≤ x0 by omega)
    obtain ⟨k, rfl⟩ := Int.eq_ofNat_of_zero_le (show 0 ≤ x2 by omega)
    exact runs_in n a1 cap1 l1 k w hT (by omega) (by omega) (by omega) (by omega) t1

end Go.Proofs.YtijoocoacaogoaaDoor
