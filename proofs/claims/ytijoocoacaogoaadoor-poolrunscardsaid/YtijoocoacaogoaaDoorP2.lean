/-
  Contracts of package pool: New, Run, Take, Give.
-/
import Derived.Test.YtijoocoacaogoaaDoorP1
namespace Go.Proofs.YtijoocoacaogoaaDoor
open Go.RowKit

/-- What a run answers: the place, the error's number, the bits behind it. -/
def runOf (bs : List Bool) (n : Int) : Int × Int × List Bool :=
  if n < 1 then (-1, 1, bs) else if room bs n.toNat = -1 then (-1, 3, bs) else (room bs n.toNat, 0, fill bs (room bs n.toNat).toNat n.toNat)
theorem runOf_arg {bs : List Bool} {n : Int} (h : n < 1) : runOf bs n = (-1, 1, bs) := by unfold runOf; rw [if_pos h]
theorem runOf_full {bs : List Bool} {n : Nat} (h : 1 ≤ n) (hr : IsRoom bs n (-1)) : runOf bs n = (-1, 3, bs) := by
  unfold runOf; rw [if_neg (by omega), Int.toNat_natCast, ← room_eq hr, if_pos rfl]
theorem runOf_ok {bs : List Bool} {n j : Nat} (h : 1 ≤ n) (hr : IsRoom bs n j) : runOf bs n = ((j : Int), 0, fill bs j n) := by
  unfold runOf; rw [if_neg (by omega), Int.toNat_natCast, ← room_eq hr, if_neg (by omega), Int.toNat_natCast]
theorem runOf_cases (bs : List Bool) (n : Int) :
    (n < 1 ∧ runOf bs n = (-1, 1, bs)) ∨ (∃ m : Nat, n = m ∧ 1 ≤ m ∧ IsRoom bs m (-1) ∧ runOf bs n = (-1, 3, bs)) ∨ (∃ m j : Nat, n = m ∧ 1 ≤ m ∧ IsRoom bs m j ∧ j + m ≤ bs.length ∧ runOf bs n = ((j : Int), 0, fill bs j m)) := by
  by_cases h : n < 1
  · exact Or.inl ⟨h, runOf_arg h⟩
  · obtain ⟨m, rfl⟩ := Int.eq_ofNat_of_zero_le (show 0 ≤ n by omega)
    have h1 : 1 ≤ m := by omega
    have hr := room_is bs m
    rcases hr with ⟨h2, h3⟩ | ⟨j, h2, h3, h4, h5⟩
    · exact Or.inr (Or.inl ⟨m, rfl, h1, Or.inl ⟨rfl, h3⟩, runOf_full h1 (Or.inl ⟨rfl, h3⟩)⟩)
    · exact Or.inr (Or.inr ⟨m, j, rfl, h1, Or.inr ⟨j, rfl, h3, h4, h5⟩, h3, runOf_ok h1 (Or.inr ⟨j, rfl, h3, h4, h5⟩)⟩)
theorem runOf_len (bs : List Bool) (n : Int) : (runOf bs n).2.2.length = bs.length := by
  rcases runOf_cases bs n with ⟨-, h⟩ | ⟨m, -, -, -, h⟩ | ⟨m, j, -, -, -, -, h⟩ <;> rw [h]
  exact fill_len _ _ _

/-- What a number that is given back answers: the error's number, the bits behind it. -/
def giveOf (bs : List Bool) (i : Int) : Int × List Bool := if 0 ≤ i ∧ i < bs.length then (if bget bs i then (0, bset bs i false) else (2, bs)) else (1, bs)
theorem giveOf_len (bs : List Bool) (i : Int) : (giveOf bs i).2.length = bs.length := by
  unfold giveOf
  split
  · split
    · exact bset_len _ _ _
    · rfl
  · rfl

theorem setP (bp bm bw : Nat) (bs : List Bool) (i : Int) (on : Bool) (w : World) (h : PoolIs w bp bm bw bs) :
    Calls Tryd.prog 25 #[.pointer (some ⟨bm, 0, none⟩), .int .i64 i, .bool on] w fun e w' => e = .returned (.bool (turned bs i on)) ∧ PoolIs w' bp bm bw (bset bs i on) ∧ But bw w w' := by
  refine (setB bm bw bs i on w h.m).mono ?_
  rintro e w' ⟨rfl, h1, h2⟩
  exact ⟨rfl, ⟨h.p.but h2 h.n2, h1, h.n1, h.n2⟩, h2⟩

set_option maxHeartbeats 400000 in
theorem pgive (bp bm bw : Nat) (bs : List Bool) (i : Int) (w : World) (h : PoolIs w bp bm bw bs) :
    Calls Tryd.prog 14 #[.pointer (some ⟨bp, 0, none⟩), .int .i64 i] w fun e w' => e = .returned (.int .i64 (giveOf bs i).1) ∧ PoolIs w' bp bm bw (giveOf bs i).2 ∧ But bw w w' := by
  have hc := h.cell
  have hle := h.lt.2.2.2
  by_cases hi : 0 ≤ i ∧ i < bs.length
  · obtain ⟨h0, h1⟩ := hi
    have ht : turned bs i false = bget bs i := by
      unfold turned; rw [decide_eq_true ⟨h0, h1⟩]; cases bget bs i <;> rfl
    have hs := fun w h => setP bp bm bw bs i false w h
    rw [ht] at hs
    cases hb : bget bs i
    · have e1 : giveOf bs i = (2, bs) := by unfold giveOf; rw [if_pos ⟨h0, h1⟩, hb]; rfl
      have e2 : bset bs i false = bs := by
        obtain ⟨n, rfl⟩ := Int.eq_ofNat_of_zero_le h0
        have hn : n < bs.length := by omega
        rw [bget_in] at hb
        have : bs[n] = false := by simpa [hn] using hb
        simp only [bset]
        rw [if_pos (by omega), Int.toNat_natCast, ← this, List.set_getElem_self hn]
      rw [hb, e2] at hs
      have HS := (show Hid _ from hs)
      rw [e1]
      clear e1 e2 hb ht hs
      go_enter Tryd.func14, Tryd.ntmps14
      go_wp2_with (first
        | (go_at_call 23; refine (plen _ _ _ bs _ h).mono ?_; rintro e w' ⟨rfl, rfl⟩)
        | (go_at_call 25; refine (HS.out _ h).mono ?_; rintro e w' ⟨rfl, h2, hb2⟩))
      go_ret
      exact ⟨rfl, h2, hb2⟩
    · have e1 : giveOf bs i = (0, bset bs i false) := by unfold giveOf; rw [if_pos ⟨h0, h1⟩, hb]; rfl
      rw [hb] at hs
      have HS := (show Hid _ from hs)
      rw [e1]
      clear e1 hb ht hs
      go_enter Tryd.func14, Tryd.ntmps14
      go_wp2_with (first
        | (go_at_call 23; refine (plen _ _ _ bs _ h).mono ?_; rintro e w' ⟨rfl, rfl⟩)
        | (go_at_call 25; refine (HS.out _ h).mono ?_; rintro e w' ⟨rfl, h2, hb2⟩))
      go_ret
      exact ⟨rfl, h2, hb2⟩
  · have e1 : giveOf bs i = (1, bs) := by unfold giveOf; rw [if_neg hi]
    rw [e1]
    by_cases h0 : i < 0
    · clear hi e1
      go_enter Tryd.func14, Tryd.ntmps14
      go_wp2_with fail
      go_ret
      exact ⟨rfl, h, But.refl _ _⟩
    · have h1 : (bs.length : Int) ≤ i := by omega
      clear hi e1
      go_enter Tryd.func14, Tryd.ntmps14
      go_wp2_with (go_at_call 23; refine (plen _ _ _ bs _ h).mono ?_; rintro e w' ⟨rfl, rfl⟩)
      go_ret
      exact ⟨rfl, h, But.refl _ _⟩

theorem bset_fill (bs : List Bool) (j k : Nat) (i : Int) (hi : i = (j : Int) + (k : Int)) : bset (fill bs j k) i true = fill bs j (k + 1) := by
  subst hi
  unfold bset
  rw [if_pos (by omega)]
  show _ = (fill bs j k).set (j + k) true
  congr 1

set_option maxHeartbeats 1000000 in
theorem prun (bp bm bw : Nat) (bs : List Bool) (n : Int) (w : World) (h : PoolIs w bp bm bw bs) (hT : Tab w) :
    Calls Tryd.prog 16 #[.pointer (some ⟨bp, 0, none⟩), .int .i64 n] w fun e w' => e = .returned (.tuple #[.int .i64 (runOf bs n).1, .int .i64 (runOf bs n).2.1]) ∧ PoolIs w' bp bm bw (runOf bs n).2.2 ∧ But bw w w' := by
  have hle := h.lt.2.2.2
  rcases runOf_cases bs n with ⟨h1, h2⟩ | ⟨m, rfl, h1, hr, h2⟩ | ⟨m, j, rfl, h1, hr, hj, h2⟩
  · rw [h2]
    clear h2
    go_enter Tryd.func16, Tryd.ntmps16
    go_wp2_with fail
    go_ret2
    exact ⟨rfl, h, But.refl _ _⟩
  · rw [h2]
    have HR : Hid (IsRoom bs m (-1)) := hr
    clear h2 hr
    go_enter Tryd.func16, Tryd.ntmps16
    go_wp2_with fail
    refine (proom _ _ _ bs m _ h hT h1).mono ?_
    rintro e w1 ⟨⟨r, rfl, hr⟩, rfl⟩
    obtain rfl := hr.unique HR.out
    clear hr
    go_wp2_with fail
    go_ret2
    exact ⟨rfl, h, But.refl _ _⟩
  · rw [h2]
    have HR : Hid (IsRoom bs m j) := hr
    clear h2 hr
    go_enter Tryd.func16, Tryd.ntmps16
    go_wp2_with fail
    refine (proom _ _ _ bs m _ h hT h1).mono ?_
    rintro e w1 ⟨⟨r, rfl, hr⟩, rfl⟩
    obtain rfl := hr.unique HR.out
    clear hr
    go_wp2
    go_loopw [16] (fun i wr => ∃ k : Nat, k ≤ m ∧ i = .int .i64 k ∧ PoolIs wr bp bm bw (fill bs j k) ∧ But bw w1 wr) (fun i _ => m - (intOf i).toNat)
    case atStart => exact ⟨0, by omega, rfl, h, But.refl _ _⟩
    case round =>
      obtain ⟨k, hk, rfl, hp, hb⟩ := hrel
      have hc := hp.cell
      by_cases hlt : k < m
      · go_wp2_with fail
        refine (setP _ _ _ _ _ true _ hp).mono ?_
        rintro e w2 ⟨rfl, hp2, hb2⟩
        rw [bset_fill bs j k _ rfl] at hp2
        have hb3 := hb.trans hb2
        clear hb2 hb hp hc
        go_wp2
        go_roundw
        case rel => exact ⟨k + 1, by omega, by go_num, hp2, hb3⟩
        case measure => simp [intOf]; omega
      · obtain rfl : k = m := by omega
        go_wp2_with fail
        go_ret2
        exact ⟨rfl, hp, hb⟩

theorem ptake (bp bm bw : Nat) (bs : List Bool) (w : World) (h : PoolIs w bp bm bw bs) (hT : Tab w) :
    Calls Tryd.prog 12 #[.pointer (some ⟨bp, 0, none⟩)] w fun e w' => e = .returned (.tuple #[.int .i64 (runOf bs 1).1, .int .i64 (runOf bs 1).2.1]) ∧ PoolIs w' bp bm bw (runOf bs 1).2.2 ∧ But bw w w' := by
  obtain ⟨R, hR⟩ : ∃ R, R = runOf bs 1 := ⟨_, rfl⟩
  have HA := (show Hid (∀ w, PoolIs w bp bm bw bs → Tab w → Calls Tryd.prog 16 #[.pointer (some ⟨bp, 0, none⟩), .int .i64 1] w fun e w' => e = .returned (.tuple #[.int .i64 R.1, .int .i64 R.2.1]) ∧ PoolIs w' bp bm bw R.2.2 ∧ But bw w w') from fun w h hT => by rw [hR]; exact prun _ _ _ bs 1 w h hT)
  rw [← hR]
  clear hR
  go_enter Tryd.func12, Tryd.ntmps12
  go_wp2_with (go_at_call 16; refine (HA.out _ h hT).mono ?_; rintro e w' ⟨rfl, h1, h2⟩)
  go_ret2
  exact ⟨rfl, h1, h2⟩

theorem pool_made (w w1 : World) (k : Nat) (hm : MapB w1 (w.heap.size + 1) w.heap.size (List.replicate k false)) (hb : Below w.heap.size w w1) :
    PoolIs (w1.alloc (.cells #[.pointer (some ⟨w.heap.size + 1, 0, none⟩)] 50)) w1.heap.size (w.heap.size + 1) w.heap.size (List.replicate k false) ∧ Below w.heap.size w (w1.alloc (.cells #[.pointer (some ⟨w.heap.size + 1, 0, none⟩)] 50)) := by
  have hl := hm.lt
  refine ⟨⟨RowAt.new w1 #[.pointer (some ⟨w.heap.size + 1, 0, none⟩)] 50, hm.below (below_alloc w1 _) hl.1 hl.2.1, by omega, by omega⟩, hb.alloc hb.size _⟩

set_option maxHeartbeats 400000 in
theorem pnew (n : Int) (k : Nat) (w : World) (hk : n < 0 ∧ k = 0 ∨ n = k ∧ k ≤ 1024 ∨ 1024 < n ∧ k = 1024) :
    Calls Tryd.prog 10 #[.int .i64 n] w fun e w' => (∃ bp bm bw, e = .returned (.pointer (some ⟨bp, 0, none⟩)) ∧ w.heap.size ≤ bp ∧ w.heap.size ≤ bm ∧ w.heap.size ≤ bw ∧ PoolIs w' bp bm bw (List.replicate k false)) ∧ Below w.heap.size w w' := by
  by_cases hn : n ≤ 1024
  · have HN : Hid (∀ w, Calls Tryd.prog 24 #[.int .i64 n] w fun e w' => e = .returned (.pointer (some ⟨w.heap.size + 1, 0, none⟩)) ∧ MapB w' (w.heap.size + 1) w.heap.size (List.replicate k false) ∧ Below w.heap.size w w') := fun w => by
      refine newB n k w ?_
      omega
    clear hk
    go_enter Tryd.func10, Tryd.ntmps10
    go_wp2_with (go_at_call 24; refine (HN.out _).mono ?_; rintro e w1 ⟨rfl, hm, hb⟩)
    go_ret
    obtain ⟨h1, h2⟩ := pool_made w w1 k hm hb
    exact ⟨⟨_, _, _, rfl, hb.size, by omega, by omega, h1⟩, h2⟩
  · have HN : Hid (∀ w, Calls Tryd.prog 24 #[.int .i64 1024] w fun e w' => e = .returned (.pointer (some ⟨w.heap.size + 1, 0, none⟩)) ∧ MapB w' (w.heap.size + 1) w.heap.size (List.replicate k false) ∧ Below w.heap.size w w') := fun w => by
      refine newB 1024 k w ?_
      omega
    have hn2 : 1024 < n := by omega
    clear hk hn
    go_enter Tryd.func10, Tryd.ntmps10
    go_wp2_with (go_at_call 24; refine (HN.out _).mono ?_; rintro e w1 ⟨rfl, hm, hb⟩)
    go_ret
    obtain ⟨h1, h2⟩ := pool_made w w1 k hm hb
    exact ⟨⟨_, _, _, rfl, hb.size, by omega, by omega, h1⟩, h2⟩

end Go.Proofs.YtijoocoacaogoaaDoor
