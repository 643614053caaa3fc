/-
  The contract of Remove.
-/
import Derived.Test.YtbceadnhfihlfaaP8
namespace Go.Proofs.Ytbceadnhfihlfaa
open Go.RowKit

theorem remG_root {G : Gr} : remG G 0 = G ∧ remE G 0 = 1 := by simp [remG, remE]
theorem remG_dead {G : Gr} {g : Int} (h0 : g ≠ 0) (h : lv G g = false) : remG G g = G ∧ remE G g = 2 := by simp [remG, remE, h, h0]
theorem remG_busy {G : Gr} {g : Int} (h0 : g ≠ 0) (h : lv G g = true) (hk : kids G g ≠ []) : remG G g = G ∧ remE G g = 4 := by simp [remG, remE, h, h0, hk]
theorem remG_ok {G : Gr} {g : Int} (h0 : g ≠ 0) (h : lv G g = true) (hk : kids G g = []) : remG G g = G.set g.toNat (0, false) ∧ remE G g = 0 := by simp [remG, remE, h, h0, hk]

set_option maxHeartbeats 4000000 in
theorem prem (B t : Nat) (G : Gr) (g : Int) (w : World) (hT : TreeIs B w t G) :
    Calls Try.prog 11 #[.pointer (some ⟨t, 0, none⟩), .int .i64 g] w fun e w' => e = .returned (.int .i64 (remE G g)) ∧ TreeIs B w' t (remG G g) ∧ Below B w w' ∧ Ty pt w w' := by
  have HL : Hid (Calls Try.prog 16 #[.pointer (some ⟨t, 0, none⟩), .int .i64 g] w fun e w' => e = .returned (.bool (lv G g)) ∧ w' = w) := plive B t G g w hT
  have HK : Hid (Calls Try.prog 27 #[.pointer (some ⟨t, 0, none⟩), .int .i64 g] w fun e w' => ∃ v, e = .returned v ∧ w'.ownsRow w.heap.size 3 1 v (kids G g).length ((kids G g).map iv) ∧ Below w.heap.size w w') := pkids B t G g w hT
  have hBw : B ≤ w.heap.size := Nat.le_trans hT.lo (Nat.le_of_lt hT.lt)
  by_cases h0 : g = 0
  · subst h0
    obtain ⟨e1, e2⟩ := remG_root (G := G)
    rw [e1, e2]
    have q0 : ((0 : Int) == 0) = true := rfl
    have HT : Hid (TreeIs B w t G) := hT
    clear e1 e2 hT
    go_enter Try.func11, Try.ntmps11
    go_wp2_with fail
    go_ret
    exact ⟨rfl, HT.out, Below.refl _ _, Ty.refl _ _⟩
  · have q0 : (g == 0) = false := by simpa using h0
    cases hl : lv G g with
    | false =>
      obtain ⟨e1, e2⟩ := remG_dead h0 hl
      rw [hl] at HL
      rw [e1, e2]
      have HT : Hid (TreeIs B w t G) := hT
      clear e1 e2 hT hl h0
      go_enter Try.func11, Try.ntmps11
      go_wp2_with fail
      refine HL.out.mono ?_
      rintro e w1 ⟨rfl, rfl⟩
      go_wp2
      go_ret
      exact ⟨rfl, HT.out, Below.refl _ _, Ty.refl _ _⟩
    | true =>
      rw [hl] at HL
      by_cases hk : kids G g = []
      · obtain ⟨e1, e2⟩ := remG_ok h0 hl hk
        have HO : Hid (Ok (G.set g.toNat (0, false))) := ok_set hT.ok hl h0 hk
        rw [e1, e2]
        rw [hk] at HK
        have hgl := lv_lo hl
        clear e1 e2 hl hk h0
        obtain ⟨k, rfl⟩ := Int.eq_ofNat_of_zero_le hgl.1
        have hkl : k < G.length := by omega
        rw [Int.toNat_natCast] at HO ⊢
        have q1 : decide (0 < (0 : Int)) = false := rfl
        go_enter Try.func11, Try.ntmps11
        go_wp2_with fail
        refine HL.out.mono ?_
        rintro e w1 ⟨rfl, rfl⟩
        go_wp2_with fail
        refine HK.out.mono ?_
        rintro e w2 ⟨v, rfl, hv, hb2⟩
        obtain ⟨a1, cap1, rfl, -⟩ := own_form hv
        have hT2 := hT.below hb2
        have HB2 : Hid (Below w1.heap.size w1 w2) := hb2
        obtain ⟨q, cap, hc, hf, hcells, hown⟩ := hT2.open
        obtain ⟨v2, hrow, -⟩ := hT2.h
        obtain ⟨k0, k1⟩ := hcells k hkl
        have f0 := hown.frozenAt (k * 2)
        have f1 := hown.frozenAt (k * 2 + 1)
        have hlo := hT2.lo
        clear hb2 hT hT2 hcells hv HL HK
        go_wp2_with fail
        go_ret
        obtain ⟨o1, g1⟩ := hown.stored (k * 2) (.int .i64 0)
        obtain ⟨o2, g2⟩ := o1.stored (k * 2 + 1) (.bool false)
        have t1 : Ty (fun T => T == 48) w2 _ := ty_grown hown g1 rfl
        have t2 : Ty (fun T => T == 48) _ _ := ty_grown o1 g2 rfl
        rw [gc_set G k (0, false) hkl] at o2
        have hq := (hown.lt q rfl).1
        refine ⟨rfl, ⟨⟨_, (hrow.ty t1 rfl).ty t2 rfl, ?_⟩, hlo, HO.out⟩, ?_, ?_⟩
        · have hc2 := ((hrow.ty t1 rfl).ty t2 rfl).cell 0
          have hc0 := hrow.cell 0
          rw [hc] at hc0
          obtain rfl : v2 = _ := (Option.some.inj hc0).symm
          simpa using o2
        · exact ((HB2.out.mono hBw).setCell (p := ⟨q, k * 2, none⟩) hq _).setCell (p := ⟨q, k * 2 + 1, none⟩) hq _
        · exact (Ty.ofBelow HB2.out).trans ((t1.trans t2).mono fun T hT => by simp [pt] at hT; simp [hT])
      · obtain ⟨e1, e2⟩ := remG_busy h0 hl hk
        rw [e1, e2]
        have hp : 0 < (kids G g).length := List.length_pos_iff.2 hk
        obtain ⟨n, hn⟩ : ∃ n, n = (kids G g).length := ⟨_, rfl⟩
        rw [← hn] at HK hp
        have q1 : decide (0 < (n : Int)) = true := by simp; omega
        clear e1 e2 hl hk h0 hn
        go_enter Try.func11, Try.ntmps11
        go_wp2_with fail
        refine HL.out.mono ?_
        rintro e w1 ⟨rfl, rfl⟩
        go_wp2_with fail
        refine HK.out.mono ?_
        rintro e w2 ⟨v, rfl, hv, hb2⟩
        obtain ⟨a1, cap1, rfl, -⟩ := own_form hv
        go_wp2
        go_ret
        exact ⟨rfl, hT.below hb2, hb2.mono hBw, Ty.ofBelow hb2⟩
end Go.Proofs.Ytbceadnhfihlfaa
