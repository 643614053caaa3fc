/-
  The law PoolLeast, walked: for every input it answers true.
-/
import Derived.Test.YtijoocoacaogoaaDoorLLevels
namespace Go.Proofs.YtijoocoacaogoaaDoor
open Go.RowKit

theorem full_free {bs : List Bool} (h : IsRoom bs 1 (-1)) : bs.count false = 0 := by
  rcases h with ⟨-, h⟩ | ⟨j, hj, -⟩
  · rw [List.count_eq_zero]
    intro hm
    obtain ⟨i, hi, e⟩ := List.getElem_of_mem hm
    obtain ⟨k, k1, k2, k3⟩ := h i (by omega)
    obtain rfl : k = i := by omega
    rw [show bs.getD k false = bs[k] from by simp [hi], e] at k3
    cases k3
  · omega
theorem run_free {bs : List Bool} {n j : Nat} (h : IsRoom bs n j) : (fill bs j n).count false + n = bs.count false ∧ j + n ≤ bs.length := by
  rcases h with ⟨hj, -⟩ | ⟨i, hi, h1, h2, -⟩
  · omega
  · obtain rfl : j = i := by omega
    have a := cnt_false (fill bs j n)
    have b := cnt_false bs
    have c := fill_count bs j n h1 h2
    rw [fill_len] at a
    exact ⟨by omega, h1⟩
theorem least_taken {bs : List Bool} {j : Nat} (h : IsRoom bs 1 j) (i : Nat) (hi : i ≤ j) : bget (fill bs j 1) i = true := by
  rcases h with ⟨hj, -⟩ | ⟨t, ht, h1, h2, h3⟩
  · omega
  · obtain rfl : j = t := by omega
    rw [bget_in, fill_get _ _ _ _ h1]
    by_cases e : i = j
    · rw [if_pos (by omega)]
    · rw [if_neg (by omega)]
      obtain ⟨k, k1, k2, k3⟩ := h3 i (by omega)
      obtain rfl : k = i := by omega
      exact k3

theorem least_out (x0 : Int) (a : Option Addr) (cap m : Nat) (w : World) (hT : Tab w) (hm : m ≤ 9223372036854775807) (h : x0 < 0 ∨ 200 < x0 ∨ 80 < m) :
    Calls Tryd.prog 6 #[.int .i64 x0, .slice a m cap] w fun e w' => e = .returned (.bool true) ∧ Below w.heap.size w w' := by
  by_cases h1 : x0 < 0
  · clear h
    go_enter Tryd.func6, Tryd.ntmps6
    go_wp2_with (go_at_call 9; refine (works_any _ hT).mono ?_; rintro e w1 ⟨rfl, hb⟩)
    go_ret
    exact ⟨rfl, hb⟩
  · by_cases h2 : 200 < x0
    · clear h
      go_enter Tryd.func6, Tryd.ntmps6
      go_wp2_with (go_at_call 9; refine (works_any _ hT).mono ?_; rintro e w1 ⟨rfl, hb⟩)
      go_ret
      exact ⟨rfl, hb⟩
    · have h3 : 80 < m := by omega
      clear h
      go_enter Tryd.func6, Tryd.ntmps6
      go_wp2_with (go_at_call 9; refine (works_any _ hT).mono ?_; rintro e w1 ⟨rfl, hb⟩)
      go_ret
      exact ⟨rfl, hb⟩

theorem ActsAt.get {w : World} {b off : Nat} {l : List (Int × Int)} (h : ActsAt w (some ⟨b, off, none⟩) l) (i : Nat) (hi : i < l.length) :
    w.cell? ⟨b, off + i * 2, none⟩ = some (.int .i64 l[i].1) ∧ w.cell? ⟨b, off + i * 2 + 1, none⟩ = some (.int .i64 l[i].2) := by
  obtain ⟨b', off', e, h1, h2⟩ := h i hi
  obtain ⟨rfl, rfl⟩ : b = b' ∧ off = off' := by simpa using e
  exact ⟨h1, h2⟩

set_option maxHeartbeats 4000000 in
theorem least_in (n : Nat) (a : Option Addr) (cap : Nat) (l : List (Int × Int)) (w : World) (hT : Tab w) (hn : n ≤ 200) (hl : l.length ≤ 80) (hc : ActsAt w a l) (hf : ActsFit l) :
    Calls Tryd.prog 6 #[.int .i64 n, .slice a l.length cap] w fun e w' => e = .returned (.bool true) ∧ Below w.heap.size w w' := by
  have hd1 : decide ((80 : Int) < (l.length : Int)) = false := by simp; omega
  have hd2 : decide ((200 : Int) < (n : Int)) = false := by simp; omega
  have hd3 : decide ((n : Int) < 0) = false := by simp
  go_enter Tryd.func6, Tryd.ntmps6
  go_wp2_with fail
  refine (works_any _ hT).mono ?_
  rintro e w1 ⟨rfl, hb⟩
  have hT1 := hT.below hb hT.pos
  go_wp2_with fail
  refine (newL n n w w1 hT1 hb hT.pos (Or.inr (Or.inl ⟨rfl, by omega⟩))).mono ?_
  rintro e w2 ⟨bp, bm, bw, rfl, hp⟩
  clear hT1 hb hT
  go_wp2
  go_loopw [7] (fun i wr => ∃ j : Nat, j ≤ l.length ∧ i = .int .i64 j ∧ ∃ bs : List Bool, Hid (bs.length = n) ∧ Pl w.heap.size w wr bp bm bw bs) (fun i _ => l.length - (intOf i).toNat)
  case atStart => exact ⟨0, by omega, rfl, _, by show _ = _; simp, hp⟩
  case round =>
    clear hp
    obtain ⟨j, hj, rfl, bs, HBS, hp⟩ := hrel
    by_cases hlt : j < l.length
    · obtain ⟨b, off, rfl, h1, h2⟩ := (hc.below hp.bel) j hlt
      obtain ⟨f1, f2⟩ := hf j hlt
      obtain ⟨K, hK⟩ : ∃ K, K = l[j].1 := ⟨_, rfl⟩
      obtain ⟨Nn, hN⟩ : ∃ Nn, Nn = l[j].2 := ⟨_, rfl⟩
      rw [← hK] at h1 f1
      rw [← hN] at h2 f2
      clear hK hN
      have HR : Hid (∀ n', (runOf bs n').2.2.length = n) := fun n' => by rw [runOf_len]; exact HBS.out
      have HG : Hid (∀ n', (giveOf bs n').2.length = n) := fun n' => by rw [giveOf_len]; exact HBS.out
      clear f1 hf hc
      by_cases q0 : K.tmod 3 = 0
      · have hb0 : (K.tmod 3 == 0) = true := by simp [q0]
        clear q0
        go_wp2_with fail
        refine (takeL hp).mono ?_
        rintro e w3 ⟨rfl, h3⟩
        clear hp h1 h2
        go_wp2_with fail
        go_roundw
        case rel => exact ⟨j + 1, by omega, by go_num, _, HR.out 1, h3⟩
        case measure => simp [intOf]; omega
      · have hb0 : (K.tmod 3 == 0) = false := by simp [q0]
        clear q0
        by_cases q1 : K.tmod 3 = 1
        · have hb1 : (K.tmod 3 == 1) = true := by simp [q1]
          clear q1
          go_wp2_with fail
          refine (giveL Nn hp).mono ?_
          rintro e w3 ⟨rfl, h3⟩
          clear hp h1 h2
          go_wp2_with fail
          go_roundw
          case rel => exact ⟨j + 1, by omega, by go_num, _, HG.out Nn, h3⟩
          case measure => simp [intOf]; omega
        · have hb1 : (K.tmod 3 == 1) = false := by simp [q1]
          clear q1
          by_cases q2 : K.tmod 3 = 2
          · have hb2 : (K.tmod 3 == 2) = true := by simp [q2]
            clear q2
            go_wp2_with fail
            refine (runL Nn hp).mono ?_
            rintro e w3 ⟨rfl, h3⟩
            clear hp h1 h2
            go_wp2_with fail
            go_roundw
            case rel => exact ⟨j + 1, by omega, by go_num, _, HR.out Nn, h3⟩
            case measure => simp [intOf]; omega
          · have hb2 : (K.tmod 3 == 2) = false := by simp [q2]
            clear q2
            go_wp2_with fail
            go_roundw
            case rel => exact ⟨j + 1, by omega, by go_num, _, HBS, hp⟩
            case measure => simp [intOf]; omega
    · have hcf : bs.count false ≤ n := by have := cnt_false bs; have := HBS.out; omega
      clear hc hf
      go_wp2_with fail
      refine (freeL hp).mono ?_
      rintro e w3 ⟨rfl, h3⟩
      clear hp
      rcases runOf_cases bs 1 with ⟨c, -⟩ | ⟨m, c1, -, c2, c3⟩ | ⟨m, t, c1, -, c2, c4, c3⟩
      · omega
      · obtain rfl : m = 1 := by omega
        have e0 := full_free c2
        rw [e0]
        have HC : Hid (runOf bs 1 = (-1, 3, bs)) := c3
        clear c1 c2 c3 e0
        go_wp2_with fail
        refine (takeL h3).mono ?_
        rintro e w4 ⟨rfl, h4⟩
        rw [HC.out] at h4 ⊢
        have HB : Hid (Below w.heap.size w w4) := h4.bel
        clear h3 h4 HC
        go_wp2_with fail
        go_ret
        exact ⟨rfl, HB.out⟩
      · obtain rfl : m = 1 := by omega
        obtain ⟨r1, r2⟩ := run_free c2
        have HC : Hid (runOf bs 1 = ((t : Int), 0, fill bs t 1)) := c3
        have HL : Hid (∀ i : Nat, i ≤ t → bget (fill bs t 1) i = true) := fun i hi => least_taken c2 i hi
        obtain ⟨F, hF⟩ : ∃ F, F = bs.count false := ⟨_, rfl⟩
        obtain ⟨F', hF'⟩ : ∃ F', F' = (fill bs t 1).count false := ⟨_, rfl⟩
        rw [← hF] at r1 hcf ⊢
        rw [← hF'] at r1
        have HF' : Hid (F' = (fill bs t 1).count false) := hF'
        have htn : t < n := by have := HBS.out; omega
        have hx1 : ((F' : Int) == (F : Int) - 1) = true := by simp; omega
        have hx2 : decide ((t : Int) < (n : Int)) = true := by simp; omega
        clear c1 c2 c3 c4 r2 hF hF'
        go_wp2_with fail
        refine (takeL h3).mono ?_
        rintro e w4 ⟨rfl, h4⟩
        rw [HC.out] at h4 ⊢
        clear h3 HC
        go_wp2
        go_loopw [11] (fun i wr => ∃ k : Nat, k ≤ t + 1 ∧ i = .int .i64 k ∧ Pl w.heap.size w wr bp bm bw (fill bs t 1)) (fun i _ => t + 1 - (intOf i).toNat)
        case atStart => exact ⟨0, by omega, rfl, h4⟩
        case round =>
          clear h4
          obtain ⟨k, hk, rfl, h5⟩ := hrel
          by_cases hkt : k ≤ t
          · have HK : Hid (bget (fill bs t 1) k = true) := HL.out k hkt
            go_wp2_with fail
            refine (takenL k h5).mono ?_
            rintro e w5 ⟨rfl, h6⟩
            rw [HK.out]
            clear h5 HK
            go_wp2_with fail
            go_roundw
            case rel => exact ⟨k + 1, by omega, by go_num, h6⟩
            case measure => simp [intOf]; omega
          · obtain rfl : k = t + 1 := by omega
            go_wp2_with fail
            refine (freeL h5).mono ?_
            rintro e w5 ⟨rfl, h6⟩
            rw [← HF'.out]
            have HB : Hid (Below w.heap.size w w5) := h6.bel
            clear h5 h6 HF'
            go_wp2_with fail
            go_ret
            exact ⟨rfl, HB.out⟩

theorem least_walk (x0 : Int) (a1 : Option Addr) (cap1 : Nat) (l1 : List (Int × Int)) (w : World) (hT : Tab w) (_ : -9223372036854775808 ≤ x0 ∧ x0 ≤ 9223372036854775807) (t1 : ActsAt w a1 l1) (i1 : ActsFit l1) (n1 : l1.length * 16 ≤ 140737488351232) (_ : a1 = none → cap1 = 0) :
    Calls Tryd.prog 6 #[.int .i64 x0, .slice a1 l1.length cap1] w fun e w' => e = .returned (.bool true) ∧ Below w.heap.size w w' := by
  by_cases h : x0 < 0 ∨ 200 < x0 ∨ 80 < l1.length
  · exact least_out x0 a1 cap1 _ w hT (by omega) h
  · obtain ⟨n, rfl⟩ := Int.eq_ofNat_of_zero_le (show 0 ≤ x0 by omega)
    exact least_in n a1 cap1 l1 w hT (by omega) (by omega) t1 i1

end Go.Proofs.YtijoocoacaogoaaDoor
