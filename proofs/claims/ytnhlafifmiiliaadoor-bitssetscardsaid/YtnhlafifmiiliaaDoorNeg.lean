/-
  Contract of bits.Map's Next from below nought.
-/
import Derived.Test.YtnhlafifmiiliaaDoorRef5
namespace Go.Proofs.YtnhlafifmiiliaaDoor
open Go.RowKit

theorem next_neg_out (bm bw : Nat) (bs : List Bool) (ws : List Nat) (g : Int) (on : Bool) (w : World) (hm : MapIs w bm bw bs ws) (hg : g < 0) (hf : ¬ 0 < bs.length) :
    Calls Tryd.prog 21 #[.pointer (some ⟨bm, 0, none⟩), .int .i64 g, .bool on] w fun e w' => e = .returned (.int .i64 (-1)) ∧ w' = w := by
  have HH : Hid (∀ w, MapIs w bm bw bs ws → Calls Tryd.prog 32 #[.pointer (some ⟨bm, 0, none⟩), .int .i64 0] w fun e w' => e = .returned (.bool false) ∧ w' = w) := fun w hm => by
    refine (has_any bm bw bs ws 0 w hm).mono ?_
    rintro e w' ⟨rfl, rfl⟩
    exact ⟨by rw [decide_eq_false (by omega)], rfl⟩
  clear hf
  go_enter Tryd.func21, Tryd.ntmps21
  go_wp2_with (go_at_call 32; refine (HH.out _ hm).mono ?_; rintro e w' ⟨rfl, rfl⟩)
  go_ret
  exact ⟨rfl, rfl⟩

set_option maxHeartbeats 1000000 in
theorem next_neg_in (bm bw : Nat) (bs : List Bool) (ws : List Nat) (g : Int) (on : Bool) (w : World) (hm : MapIs w bm bw bs ws) (hT : Tab w) (hg : g < 0) (hf : 0 < bs.length) :
    Calls Tryd.prog 21 #[.pointer (some ⟨bm, 0, none⟩), .int .i64 g, .bool on] w fun e w' => ∃ r, e = .returned (.int .i64 r) ∧ IsNext bs 0 on r ∧ w' = w := by
  have hle := hm.le
  have hlen := hm.len
  have hle' : ws.length ≤ 1024 := by omega
  have hfw : 0 < ws.length := by omega
  have HL : Hid (ws.length = (bs.length + 63) / 64) := hlen
  clear hlen
  have HH : Hid (∀ w, MapIs w bm bw bs ws → Calls Tryd.prog 32 #[.pointer (some ⟨bm, 0, none⟩), .int .i64 0] w fun e w' => e = .returned (.bool true) ∧ w' = w) := fun w hm => by
    refine (has_any bm bw bs ws 0 w hm).mono ?_
    rintro e w' ⟨rfl, rfl⟩
    exact ⟨by rw [decide_eq_true (by omega)], rfl⟩
  have hc1 : w.cell? ⟨bm, 1, none⟩ = some (.slice (some ⟨bw, 0, none⟩) ws.length ws.length) := by rw [hm.m.cell]; rfl
  go_enter Tryd.func21, Tryd.ntmps21
  go_wp2_with (go_at_call 32; refine (HH.out _ hm).mono ?_; rintro e w' ⟨rfl, rfl⟩)
  go_loop [8, 29] (fun sk i => ∃ k s : Nat, k ≤ ws.length ∧ i = .int .i64 k ∧ sk = .int .u64 s ∧ s < 64 ∧
      Hid (∀ j, 0 ≤ j → j < 64 * k + s → bs.getD j false ≠ on)) (fun _ i => ws.length - (intOf i).toNat)
  case atStart => exact ⟨0, 0, by omega, rfl, rfl, by omega, fun j h1 h2 => by omega⟩
  case round =>
    obtain ⟨k, s, hk, rfl, rfl, hs', HN⟩ := hrel
    by_cases hlt : k < ws.length
    · have hb := hm.lt k hlt
      have hL := likeOf_lt _ on hb
      obtain ⟨L, hLe⟩ : ∃ L, L = likeOf ws[k] on := ⟨_, rfl⟩
      have HK : Hid (∀ w, MapIs w bm bw bs ws → Calls Tryd.prog 34 #[.pointer (some ⟨bm, 0, none⟩), .int .i64 (k : Int), .bool on] w fun e w' => e = .returned (.int .u64 L) ∧ w' = w) := fun w hm => by
        rw [hLe]; exact like_any bm bw bs ws k on w hm hlt
      rw [← hLe] at hL
      have HLe : Hid (L = likeOf ws[k] on) := hLe
      clear hLe
      obtain ⟨F, hF⟩ : ∃ F, F = L / 2 ^ s * 2 ^ s := ⟨_, rfl⟩
      have hFv := found_val L s hL
      rw [← hF] at hFv
      have hFlt : F < 18446744073709551616 := by rw [hF]; exact Nat.lt_of_le_of_lt (Nat.div_mul_le_self _ _) hL
      have HFe : Hid (F = L / 2 ^ s * 2 ^ s) := hF
      clear hF
      by_cases hz : F = 0
      · have HZ : Hid (F = 0) := hz
        have hne : (((F : Int)) != 0) = false := by simp [hz]
        clear hz
        go_wp2_with (go_at_call 34; refine (HK.out _ hm).mono ?_; rintro e w' ⟨rfl, rfl⟩)
        go_round
        case rel =>
          refine ⟨k + 1, 0, by omega, by go_num, by go_num, by omega, fun j h1 h2 => ?_⟩
          by_cases hj : j < 64 * k + s
          · exact HN.out j h1 hj
          · have hzz := HZ.out
            rw [HFe.out, HLe.out] at hzz
            exact miss hm k s on hlt hzz j (by omega) (by omega)
        case measure => simp [intOf]; omega
      · have HZ : Hid (¬ F = 0) := hz
        have hne : (((F : Int)) != 0) = true := by simp [hz]
        obtain ⟨c, hc⟩ : ∃ c, c = Lib.ctz 64 F := ⟨_, rfl⟩
        have HC : Hid (∀ w, Tab w → Calls Tryd.prog 36 #[.int .u64 (F : Int)] w fun e w' => e = .returned (.int .i64 c) ∧ w' = w) := fun w hT => by
          rw [hc]; exact tz_any F w hFlt hz hT
        have hzz := hz
        rw [HFe.out, HLe.out] at hzz
        have hh := hit hm k s on hlt hzz
        rw [← HLe.out, ← HFe.out, ← hc] at hh
        obtain ⟨g1, g2, g3, g4⟩ := hh
        have H1 : Hid (bs.getD (64 * k + c) false = on) := g1
        have H4 : Hid (∀ j, 64 * k + s ≤ j → j < 64 * k + c → bs.getD j false ≠ on) := g4
        clear hz hc g1 g4 hzz
        go_wp2_with (first
          | (go_at_call 34; refine (HK.out _ hm).mono ?_; rintro e w' ⟨rfl, rfl⟩)
          | (go_at_call 36; refine (HC.out _ hT).mono ?_; rintro e w' ⟨rfl, rfl⟩)
          | (go_at_call 35; refine (known_any bm bw bs ws _ _ hm).mono ?_; rintro e w' ⟨rfl, rfl⟩))
        · go_ret
          refine ⟨_, rfl, Or.inr ⟨64 * k + c, by omega, by omega, by omega, H1.out, fun i h1 h2 => ?_⟩, rfl⟩
          by_cases hi : i < 64 * k + s
          · exact HN.out i h1 hi
          · exact H4.out i (by omega) h2
        · go_ret
          refine ⟨_, rfl, Or.inl ⟨rfl, fun i h1 h2 => ?_⟩, rfl⟩
          by_cases hi : i < 64 * k + s
          · exact HN.out i h1 hi
          · exact H4.out i (by omega) (by omega)
    · go_wp2
      go_ret
      exact ⟨_, rfl, Or.inl ⟨rfl, fun i h1 h2 => HN.out i h1 (by have := HL.out; omega)⟩, rfl⟩

theorem nextAny (bm bw : Nat) (bs : List Bool) (g : Int) (f : Nat) (on : Bool) (w : World) (hm : MapB w bm bw bs) (hT : Tab w) (hg : g < 0 ∧ f = 0 ∨ g = f) :
    Calls Tryd.prog 21 #[.pointer (some ⟨bm, 0, none⟩), .int .i64 g, .bool on] w fun e w' => (∃ r, e = .returned (.int .i64 r) ∧ IsNext bs f on r) ∧ w' = w := by
  rcases hg with ⟨h1, rfl⟩ | h1
  · obtain ⟨ws, hm⟩ := hm
    by_cases hf : 0 < bs.length
    · refine (next_neg_in bm bw bs ws g on w hm hT h1 hf).mono ?_
      rintro e w' ⟨r, rfl, hr, rfl⟩
      exact ⟨⟨r, rfl, hr⟩, rfl⟩
    · refine (next_neg_out bm bw bs ws g on w hm h1 hf).mono ?_
      rintro e w' ⟨rfl, rfl⟩
      exact ⟨⟨-1, rfl, Or.inl ⟨rfl, fun j _ h => by omega⟩⟩, rfl⟩
  · exact nextB bm bw bs g f on w hm hT h1

end Go.Proofs.YtnhlafifmiiliaaDoor
