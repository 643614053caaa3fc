/-
  Contracts of package pool: Len, Taken, Free, Level, gapEnd, room.
-/
import Derived.Test.YtijoocoacaogoaaDoorMapB
import Derived.Test.YtijoocoacaogoaaDoorPMath
namespace Go.Proofs.YtijoocoacaogoaaDoor
open Go.RowKit

/-- A pool at block bp, whose bits.Map lies at bm, its words at bw. -/
structure PoolIs (w : World) (bp bm bw : Nat) (bs : List Bool) : Prop where
  p : RowAt w bp 50 [.pointer (some ⟨bm, 0, none⟩)]
  m : MapB w bm bw bs
  n1 : bp ≠ bm
  n2 : bp ≠ bw
theorem PoolIs.cell {w : World} {bp bm bw : Nat} {bs : List Bool} (h : PoolIs w bp bm bw bs) : w.cell? ⟨bp, 0, none⟩ = some (.pointer (some ⟨bm, 0, none⟩)) := by
  rw [h.p.cell]; rfl
theorem PoolIs.drewN {w : World} {bp bm bw : Nat} {bs : List Bool} (h : PoolIs w bp bm bw bs) (n : Nat) : PoolIs (w.drewN n) bp bm bw bs := ⟨h.p.drewN n, h.m.drewN n, h.n1, h.n2⟩
theorem PoolIs.below {B : Nat} {w w' : World} {bp bm bw : Nat} {bs : List Bool} (h : PoolIs w bp bm bw bs) (hb : Below B w w') (h0 : bp < B) (h1 : bm < B) (h2 : bw < B) : PoolIs w' bp bm bw bs :=
  ⟨h.p.below hb h0, h.m.below hb h1 h2, h.n1, h.n2⟩
theorem PoolIs.but {b : Nat} {w w' : World} {bp bm bw : Nat} {bs : List Bool} (h : PoolIs w bp bm bw bs) (hb : But b w w') (h0 : bp ≠ b) (h1 : bm ≠ b) (h2 : bw ≠ b) : PoolIs w' bp bm bw bs :=
  ⟨h.p.but hb h0, h.m.but hb h1 h2, h.n1, h.n2⟩
theorem PoolIs.lt {w : World} {bp bm bw : Nat} {bs : List Bool} (h : PoolIs w bp bm bw bs) : bp < w.heap.size ∧ bm < w.heap.size ∧ bw < w.heap.size ∧ bs.length ≤ 65536 :=
  ⟨h.p.lt, h.m.lt.1, h.m.lt.2.1, h.m.lt.2.2.2⟩

theorem plen (bp bm bw : Nat) (bs : List Bool) (w : World) (h : PoolIs w bp bm bw bs) :
    Calls Tryd.prog 23 #[.pointer (some ⟨bp, 0, none⟩)] w fun e w' => e = .returned (.int .i64 bs.length) ∧ w' = w := by
  have hc := h.cell
  go_enter Tryd.func23, Tryd.ntmps23
  go_wp2_with (go_at_call 29; refine (lenB _ _ bs _ h.m).mono ?_; rintro e w' ⟨rfl, rfl⟩)
  go_ret
  exact ⟨rfl, rfl⟩

theorem ptaken (bp bm bw : Nat) (bs : List Bool) (i : Int) (w : World) (h : PoolIs w bp bm bw bs) :
    Calls Tryd.prog 20 #[.pointer (some ⟨bp, 0, none⟩), .int .i64 i] w fun e w' => e = .returned (.bool (bget bs i)) ∧ w' = w := by
  have hc := h.cell
  go_enter Tryd.func20, Tryd.ntmps20
  go_wp2_with (go_at_call 28; refine (getB _ _ bs i _ h.m).mono ?_; rintro e w' ⟨rfl, rfl⟩)
  go_ret
  exact ⟨rfl, rfl⟩

theorem cnt_false (bs : List Bool) : bs.count false + bs.count true = bs.length := by
  induction bs with
  | nil => rfl
  | cons b r ih => cases b <;> simp <;> omega

set_option maxHeartbeats 400000 in
theorem pfree (bp bm bw : Nat) (bs : List Bool) (w : World) (h : PoolIs w bp bm bw bs) :
    Calls Tryd.prog 18 #[.pointer (some ⟨bp, 0, none⟩)] w fun e w' => e = .returned (.int .i64 (bs.count false)) ∧ ∃ n, w' = w.drewN n := by
  have hc := h.cell
  have hle := h.lt.2.2.2
  have hcf := cnt_false bs
  obtain ⟨L, hL⟩ : ∃ L, L = bs.length := ⟨_, rfl⟩
  obtain ⟨C, hC⟩ : ∃ C, C = bs.count true := ⟨_, rfl⟩
  have HA : Hid (∀ w, PoolIs w bp bm bw bs → Calls Tryd.prog 23 #[.pointer (some ⟨bp, 0, none⟩)] w fun e w' => e = .returned (.int .i64 L) ∧ w' = w) := fun w h => by rw [hL]; exact plen _ _ _ bs w h
  have HB : Hid (∀ w, MapB w bm bw bs → Calls Tryd.prog 27 #[.pointer (some ⟨bm, 0, none⟩)] w fun e w' => e = .returned (.int .i64 C) ∧ w' = w) := fun w h => by rw [hC]; exact countB _ _ bs w h
  have HF : Hid ((bs.count false : Int) = (L : Int) - (C : Int)) := by show _ = _; omega
  have hlc : C ≤ L := by omega
  have hll : L ≤ 65536 := by omega
  clear hL hC hcf hle
  go_enter Tryd.func18, Tryd.ntmps18
  go_wp2
  go_quiet ((first
    | (go_at_call 23; exact (HA.out _ (h.drewN _)).mono fun e w' h => ⟨h.1, _, h.2⟩)
    | (go_at_call 27; exact (HB.out _ (h.m.drewN _)).mono fun e w' h => ⟨h.1, _, h.2⟩)))
  go_wp2
  go_ret
  exact ⟨by rw [HF.out]; rfl, _, rfl⟩

/-- How much is free, as a level. -/
def levelOf (f : Nat) (low high : Int) : Int := if (f : Int) < low then 0 else if (f : Int) < high then 1 else 2
set_option maxHeartbeats 400000 in
theorem plevel (bp bm bw : Nat) (bs : List Bool) (low high : Int) (w : World) (h : PoolIs w bp bm bw bs) :
    Calls Tryd.prog 21 #[.pointer (some ⟨bp, 0, none⟩), .int .i64 low, .int .i64 high] w fun e w' => e = .returned (.int .i64 (levelOf (bs.count false) low high)) ∧ ∃ n, w' = w.drewN n := by
  obtain ⟨F, hF⟩ : ∃ F, F = bs.count false := ⟨_, rfl⟩
  have HA : Hid (∀ w, PoolIs w bp bm bw bs → Calls Tryd.prog 18 #[.pointer (some ⟨bp, 0, none⟩)] w fun e w' => e = .returned (.int .i64 F) ∧ ∃ n, w' = w.drewN n) := fun w h => by rw [hF]; exact pfree _ _ _ bs w h
  rw [← hF]
  clear hF
  unfold levelOf
  by_cases h1 : (F : Int) < low
  · rw [if_pos h1]
    go_enter Tryd.func21, Tryd.ntmps21
    go_wp2_with (go_at_call 18; refine (HA.out _ h).mono ?_; rintro e w' ⟨rfl, n, rfl⟩)
    go_ret
    exact ⟨rfl, n, rfl⟩
  · rw [if_neg h1]
    by_cases h2 : (F : Int) < high
    · rw [if_pos h2]
      go_enter Tryd.func21, Tryd.ntmps21
      go_wp2_with (go_at_call 18; refine (HA.out _ h).mono ?_; rintro e w' ⟨rfl, n, rfl⟩)
      go_ret
      exact ⟨rfl, n, rfl⟩
    · rw [if_neg h2]
      go_enter Tryd.func21, Tryd.ntmps21
      go_wp2_with (go_at_call 18; refine (HA.out _ h).mono ?_; rintro e w' ⟨rfl, n, rfl⟩)
      go_ret
      exact ⟨rfl, n, rfl⟩

set_option maxHeartbeats 400000 in
theorem pgapEnd (bp bm bw : Nat) (bs : List Bool) (j : Nat) (w : World) (h : PoolIs w bp bm bw bs) (hT : Tab w) (hj : j < bs.length) (hf : bs.getD j false = false) :
    Calls Tryd.prog 32 #[.pointer (some ⟨bp, 0, none⟩), .int .i64 j] w fun e w' => (∃ t : Nat, e = .returned (.int .i64 t) ∧ IsEnd bs j t) ∧ w' = w := by
  have hc := h.cell
  have HE : Hid (∀ r, IsNext bs j true r → (r = -1 → IsEnd bs j bs.length) ∧ (∀ e : Nat, r = e → IsEnd bs j e) ∧ (r = -1 ∨ ∃ e : Nat, r = e ∧ e < bs.length)) := fun r hr => end_of_next hj hf hr
  clear hf
  go_enter Tryd.func32, Tryd.ntmps32
  go_wp2_with fail
  refine (nextB _ _ bs j j true _ h.m hT rfl).mono ?_
  rintro e w1 ⟨⟨r, rfl, hr⟩, rfl⟩
  obtain ⟨e1, e2, e3⟩ := HE.out r hr
  clear hr
  rcases e3 with rfl | ⟨t, rfl, ht⟩
  · have H1 : Hid (IsEnd bs j bs.length) := e1 rfl
    clear e1 e2
    go_wp2_with (go_at_call 23; refine (plen _ _ _ bs _ h).mono ?_; rintro e w' ⟨rfl, rfl⟩)
    go_ret
    exact ⟨⟨_, rfl, H1.out⟩, rfl⟩
  · have H1 : Hid (IsEnd bs j t) := e2 t rfl
    clear e1 e2
    go_wp2_with fail
    go_ret
    exact ⟨⟨_, rfl, H1.out⟩, rfl⟩

def mea (n : Nat) (v : Value) : Nat := if intOf v < 0 then 0 else n - (intOf v).toNat
theorem mea_neg (n : Nat) : mea n (.int .i64 (-1)) = 0 := rfl
theorem mea_nat (n j : Nat) : mea n (.int .i64 j) = n - j := by
  show (if (j : Int) < 0 then 0 else n - (j : Int).toNat) = n - j
  rw [if_neg (by omega), Int.toNat_natCast]

set_option maxHeartbeats 1000000 in
theorem proom (bp bm bw : Nat) (bs : List Bool) (n : Nat) (w : World) (h : PoolIs w bp bm bw bs) (hT : Tab w) (hn : 1 ≤ n) :
    Calls Tryd.prog 26 #[.pointer (some ⟨bp, 0, none⟩), .int .i64 n] w fun e w' => (∃ r, e = .returned (.int .i64 r) ∧ IsRoom bs n r) ∧ w' = w := by
  have hc := h.cell
  have hle := h.lt.2.2.2
  go_enter Tryd.func26, Tryd.ntmps26
  go_wp2_with fail
  refine (nextB _ _ bs 0 0 false _ h.m hT rfl).mono ?_
  rintro e w1 ⟨⟨r0, rfl, hr0⟩, rfl⟩
  have HR0 : Hid (IsNext bs 0 false r0) := hr0
  clear hr0
  go_wp2
  go_loop [5] (fun at_ => ∃ f : Nat, ∃ r, at_ = .int .i64 r ∧ Hid (NoRoom bs n f) ∧ Hid (IsNext bs f false r)) (fun at_ => mea (bs.length + 1) at_)
  case atStart => exact ⟨0, r0, rfl, NoRoom.zero bs n, HR0⟩
  case round =>
    clear HR0
    obtain ⟨f, r, rfl, HN, HR⟩ := hrel
    by_cases hr : r = -1
    · subst hr
      have HX : Hid (IsRoom bs n (-1)) := room_none hn HN.out HR.out
      clear HN HR
      go_wp2
      go_ret
      exact ⟨⟨-1, rfl, HX.out⟩, rfl⟩
    · obtain ⟨j, rfl⟩ : ∃ j : Nat, r = j := by
        rcases HR.out with ⟨h1, -⟩ | ⟨j, h1, -⟩
        · exact absurd h1 hr
        · exact ⟨j, h1⟩
      obtain ⟨a1, a2, a3⟩ := room_step hn HN.out HR.out
      have HN' : Hid (NoRoom bs n j) := a1
      have HA3 : Hid (bs.getD j false = false) := a3
      clear hr a1 a3 HN HR
      go_wp2_with fail
      refine (pgapEnd _ _ _ bs j _ h hT a2 HA3.out).mono ?_
      rintro e w2 ⟨⟨t, rfl, ht⟩, rfl⟩
      have HT : Hid (IsEnd bs j t) := ht
      obtain ⟨t1, t2, -, -⟩ := ht
      by_cases hnt : (n : Int) ≤ (t : Int) - (j : Int)
      · have HX : Hid (IsRoom bs n j) := room_hit HN'.out HT.out (by omega)
        clear HN' HT HA3
        go_wp2_with fail
        go_ret
        exact ⟨⟨_, rfl, HX.out⟩, rfl⟩
      · have HX : Hid (NoRoom bs n t) := room_miss HN'.out HT.out (by omega)
        clear HN' HT HA3
        go_wp2_with fail
        refine (nextB _ _ bs t t false _ h.m hT rfl).mono ?_
        rintro e w2 ⟨⟨r1, rfl, hr1⟩, rfl⟩
        have HR1 : Hid (IsNext bs t false r1) := hr1
        clear hr1
        go_wp2
        go_round
        case rel => exact ⟨t, r1, rfl, HX, HR1⟩
        case measure =>
          rcases HR1.out with ⟨rfl, -⟩ | ⟨i, rfl, hi1, hi2, -⟩
          · rw [mea_neg, mea_nat]; omega
          · rw [mea_nat, mea_nat]; omega

end Go.Proofs.YtijoocoacaogoaaDoor
