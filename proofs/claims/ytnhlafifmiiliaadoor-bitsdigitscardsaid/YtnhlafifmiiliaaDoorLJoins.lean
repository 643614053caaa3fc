/-
  The law BitsJoins, walked: for every input it answers true.
-/
import Derived.Test.YtnhlafifmiiliaaDoorOwn
namespace Go.Proofs.YtnhlafifmiiliaaDoor
open Go.RowKit

theorem joins_out (a : Option Addr) (cap n : Nat) (d wd : Int) (w : World) (hT : Tab w) (hn : n ≤ 9223372036854775807) (h : 100 < n ∨ wd < 1 ∨ 16 < wd) :
    Calls Tryd.prog 10 #[.slice a n cap, .int .i64 d, .int .i64 wd] w fun e w' => e = .returned (.bool true) ∧ Below w.heap.size w w' := by
  by_cases h1 : 100 < n
  · go_enter Tryd.func10, Tryd.ntmps10
    go_wp2_with (go_at_call 11; refine (works_any _ hT).mono ?_; rintro e w1 ⟨rfl, hb⟩)
    go_ret
    exact ⟨rfl, hb⟩
  · by_cases h2 : wd < 1
    · clear h
      go_enter Tryd.func10, Tryd.ntmps10
      go_wp2_with (go_at_call 11; refine (works_any _ hT).mono ?_; rintro e w1 ⟨rfl, hb⟩)
      go_ret
      exact ⟨rfl, hb⟩
    · have h3 : 16 < wd := by omega
      clear h
      go_enter Tryd.func10, Tryd.ntmps10
      go_wp2_with (go_at_call 11; refine (works_any _ hT).mono ?_; rintro e w1 ⟨rfl, hb⟩)
      go_ret
      exact ⟨rfl, hb⟩

theorem ints_new1 (w : World) (a : Int) (t : TypeId) : IntsAt (w.alloc (.cells #[.int .i64 a] t)) (some ⟨w.heap.size, 0, none⟩) [a] :=
  IntsAt.of_row (t := t) (RowAt.new w #[.int .i64 a] t)

theorem join_sum (l : List Int) (d wd : Int) (X Y : Nat) (h1 : 1 ≤ wd) (h2 : wd ≤ 16) (hX : X = joinVal wd.toNat l) (hY : Y = joinVal wd.toNat (l ++ [d])) :
    ∃ P D : Nat, 1 ≤ P ∧ IntKind.u64.wrap (2 ^ wd.toNat) = (P : Int) ∧ IntKind.u64.wrap d = (D : Int) ∧ IntKind.u64.wrap (IntKind.u64.wrap (↑X * 2 ^ wd.toNat) + (D : Int) % (P : Int)) = (Y : Int) := by
  obtain ⟨m, rfl⟩ := Int.eq_ofNat_of_zero_le (show 0 ≤ wd by omega)
  simp only [Int.toNat_natCast] at *
  have hp := pow_pos m
  have hp' : 2 ^ m ≤ 2 ^ 16 := pow_le (by omega)
  refine ⟨2 ^ m, (d % 18446744073709551616).toNat, hp, ?_, ?_, ?_⟩
  · rw [← cast_pow, IntKind.wrap_u64]; generalize 2 ^ m = p at *; omega
  · rw [IntKind.wrap_u64, Int.toNat_of_nonneg (Int.emod_nonneg _ (by decide))]
  · rw [hY, joinVal_snoc, ← hX]
    unfold joinStep
    rw [← emod_toNat d m (by omega), ← Int.natCast_emod, ← cast_pow]
    generalize (d % 18446744073709551616).toNat % 2 ^ m = B
    simp only [IntKind.wrap_u64]
    rw [← Int.natCast_mul]
    generalize X * 2 ^ m = A
    omega

set_option maxHeartbeats 2000000 in
theorem joins_in (a : Option Addr) (cap : Nat) (l : List Int) (d wd : Int) (w : World) (hT : Tab w) (hn : l.length ≤ 100) (h1 : 1 ≤ wd) (h2 : wd ≤ 16) (hc : IntsAt w a l) (hnil : a = none → cap = 0) :
    Calls Tryd.prog 10 #[.slice a l.length cap, .int .i64 d, .int .i64 wd] w fun e w' => e = .returned (.bool true) ∧ Below w.heap.size w w' := by
  have HN := (show Hid (a = none → cap = 0) from hnil)
  clear hnil
  obtain ⟨X, hX⟩ : ∃ X, X = joinVal wd.toNat l := ⟨_, rfl⟩
  have HX : Hid (∀ (w : World), IntsAt w a l → Calls Tryd.prog 30 #[.slice a l.length cap, .int .i64 wd] w fun e w' => e = .returned (.int .u64 X) ∧ w' = w) := fun w h => by
    rw [hX]; exact join_yes a cap l wd w h1 h2 (by omega) h
  obtain ⟨Y, hY⟩ : ∃ Y, Y = joinVal wd.toNat (l ++ [d]) := ⟨_, rfl⟩
  have HY : Hid (∀ (w : World) (u : Option Addr) (c : Nat), IntsAt w u (l ++ [d]) → Calls Tryd.prog 30 #[.slice u (l.length + 1) c, .int .i64 wd] w fun e w' => e = .returned (.int .u64 Y) ∧ w' = w) := fun w u c h => by
    rw [hY]; exact join_len u _ c (l ++ [d]) wd w (by simp) h1 h2 (by omega) h
  have HZ : Hid (∀ (w : World) (u : Option Addr) (c : Nat), IntsAt w u ([0, 0] ++ l) → Calls Tryd.prog 30 #[.slice u (2 + l.length) c, .int .i64 wd] w fun e w' => e = .returned (.int .u64 X) ∧ w' = w) := fun w u c h => by
    have := join_len u (2 + l.length) c ([0, 0] ++ l) wd w (by simp; omega) h1 h2 (by omega) h
    rw [joinVal_noughts, ← hX] at this
    exact this
  obtain ⟨P, D, hP, eP, eD, hsum⟩ := join_sum l d wd X Y h1 h2 hX hY
  have hP0 : ((P : Int) == 0) = false := by simp; omega
  clear hX hY
  have hYY : ((Y : Int) == (Y : Int)) = true := by simp
  have hXX : ((X : Int) == (X : Int)) = true := by simp
  go_enter Tryd.func10, Tryd.ntmps10
  go_wp2_with fail
  refine (works_any _ hT).mono ?_
  rintro e w1 ⟨rfl, hb⟩
  have hc1 := hc.below hb
  clear hc hT
  go_wp2_with fail
  refine (HX.out _ hc1).mono ?_
  rintro e w1 ⟨rfl, rfl⟩
  have hB1 := Below.refl w1.heap.size w1
  have hs1 : w.heap.size ≤ w1.heap.size := hb.size
  go_wp2_with (first
    | (at_builtin; refine wpList_append_on rfl (.tmp 30) (.tmp 31) rfl w1 w1.heap.size (.slice none 0 0) 0 [] l l l.length _ _ _ rfl (own_nil _ _) rfl rfl HN.out hc1 rfl (by omega) (by omega) (Nat.le_refl _) hB1 ?_; intro a2 c2 w2 own2 i2 b2)
    | (at_builtin; refine wpList_append_on rfl (.tmp 33) (.tmp 35) rfl w1 w1.heap.size (.slice a2 l.length c2) l.length l [d] (l ++ [d]) (l.length + 1) _ _ _ rfl (own2.alloc _) rfl rfl (fun h => by cases h) (ints_new1 w2 d 3) rfl rfl (by omega) (by have := b2.size; simp; omega) (b2.alloc b2.size _) ?_; intro a3 c3 w3 own3 i3 b3)
    | (go_at_call 30; refine (HY.out _ _ _ i3).mono ?_; rintro e w4 ⟨rfl, rfl⟩)
    | (at_builtin; refine wpList_append_on rfl (.tmp 40) (.tmp 41) rfl w1 w1.heap.size (.slice none 0 0) 0 [] [0, 0] [0, 0] 2 _ _ _ rfl (own_nil _ _) rfl rfl (fun h => by cases h) (ints_new2 w4 0 0 3) rfl rfl (by omega) (by have := b3.size; simp; omega) (b3.alloc b3.size _) ?_; intro a5 c5 w5 own5 i5 b5)
    | (at_builtin; refine wpList_append_on rfl (.tmp 43) (.tmp 44) rfl w1 w1.heap.size (.slice a5 2 c5) 2 [0, 0] l ([0, 0] ++ l) (2 + l.length) _ _ _ rfl own5 rfl rfl HN.out (hc1.below b5) rfl rfl (by omega) b5.size b5 ?_; intro a6 c6 w6 own6 i6 b6))
  have hBe : Below w.heap.size w w6 := hb.trans (b6.mono hs1)
  clear own2 own3 own5 own6 b2 b3 b5 b6 i2 i3 i5 hc1 hb HX HY HN hB1
  go_quiet ((go_at_call 30; exact Calls.quiet_of_same (HZ.out _ _ _ i6)))
  go_wp2
  go_ret
  exact ⟨rfl, below_drawn hBe nq⟩

theorem joins_walk (a0 : Option Addr) (cap0 : Nat) (l0 : List Int) (x1 x2 : Int) (w : World) (hT : Tab w) (t0 : IntsAt w a0 l0) (_ : I64s l0) (n0 : l0.length * 8 ≤ 140737488351232) (z0 : a0 = none → cap0 = 0) (_ : -9223372036854775808 ≤ x1 ∧ x1 ≤ 9223372036854775807) (_ : -9223372036854775808 ≤ x2 ∧ x2 ≤ 9223372036854775807) :
    Calls Tryd.prog 10 #[.slice a0 l0.length cap0, .int .i64 x1, .int .i64 x2] w fun e w' => e = .returned (.bool true) ∧ Below w.heap.size w w' := by
  by_cases h : 100 < l0.length ∨ x2 < 1 ∨ 16 < x2
  · exact joins_out a0 cap0 _ x1 x2 w hT (by omega) h
  · exact joins_in a0 cap0 l0 x1 x2 w hT (by omega) (by omega) (by omega) t0 z0

end Go.Proofs.YtnhlafifmiiliaaDoor
