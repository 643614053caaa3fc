/-
  The law TreeDepths walked.
-/
import Derived.Test.YtbceadnhfihlfaaOpen
import Derived.Test.YtbceadnhfihlfaaSums
namespace Go.Proofs.Ytbceadnhfihlfaa
open Go.RowKit

theorem depths_out (a : Option Addr) (cap n : Nat) (g : Int) (w : World) (h : 100 < n) :
    Calls Try.prog 6 #[.slice a n cap, .int .i64 g] w fun e w' => e = .returned (.bool true) ∧ Below w.heap.size w w' := by
  go_enter Try.func6, Try.ntmps6
  go_wp2_with (go_at_call 8; refine (works_any _).mono ?_; rintro e w1 ⟨rfl, hb⟩)
  go_ret
  exact ⟨rfl, hb⟩

set_option maxRecDepth 100000 in
set_option maxHeartbeats 4000000 in
theorem depths_in (a : Option Addr) (cap : Nat) (l : List Ac) (g : Int) (w : World) (hl : l.length ≤ 100) (hc : ActsAt w a l) :
    Calls Try.prog 6 #[.slice a l.length cap, .int .i64 g] w fun e w' => e = .returned (.bool true) ∧ Below w.heap.size w w' := by
  have d1 : decide ((100 : Int) < (l.length : Int)) = false := by simp; omega
  go_enter Try.func6, Try.ntmps6
  go_wp2_with fail
  refine (works_any _).mono ?_
  rintro e w1 ⟨rfl, hb1⟩
  go_wp2_with fail
  refine (newT hb1).mono ?_
  rintro e w2 ⟨t, rfl, h2, -⟩
  clear hb1 d1
  go_wp2
  go_loopw [7] (fun s7 wr => ∃ j : Nat, j ≤ l.length ∧ s7 = .int .i64 j ∧ Tr w wr t (doN l j)) (fun s7 _ => l.length - (intOf s7).toNat)
  case atStart => exact ⟨0, by omega, rfl, h2⟩
  case round =>
    clear h2
    obtain ⟨j, hj, rfl, hT⟩ := hrel
    by_cases hlt : j < l.length
    · obtain ⟨b, off, rfl, e0, e1⟩ := (hc.below hT.bel).at hlt
      have hD := doN_succ l j hlt
      obtain ⟨F, hF⟩ : ∃ F, F = l[j].g := ⟨_, rfl⟩
      obtain ⟨O, hO⟩ : ∃ F, F = l[j].off := ⟨_, rfl⟩
      have hD2 : doN l (j + 1) = if O then remG (doN l j) F else addG (doN l j) F := by rw [hD, hF, hO]; rfl
      rw [← hF] at e0
      rw [← hO] at e1
      have d0 : decide ((j : Int) < (l.length : Int)) = true := by simp; omega
      clear hF hO hD
      cases O with
      | true =>
        have H11 : Hid (Calls Try.prog 11 #[.pointer (some ⟨t, 0, none⟩), .int .i64 F] wr fun e w' => e = .returned (.int .i64 (remE (doN l j) F)) ∧ Tr w w' t (remG (doN l j) F) ∧ Ty pt wr w') := remT F hT
        have HD : Hid (doN l (j + 1) = remG (doN l j) F) := hD2
        clear hT hD2
        go_wp2_with fail
        refine H11.out.mono ?_
        rintro e w3 ⟨rfl, hT', -⟩
        go_wp2_with fail
        exact ⟨⟨j + 1, by omega, by go_num, by rw [HD.out]; exact hT'⟩, by simp [intOf]; omega⟩
      | false =>
        have H13 : Hid (Calls Try.prog 13 #[.pointer (some ⟨t, 0, none⟩), .int .i64 F] wr fun e w' => e = .returned (.tuple #[.int .i64 (addN (doN l j) F), .int .i64 (addE (doN l j) F)]) ∧ Tr w w' t (addG (doN l j) F) ∧ Ty pt wr w') := addT F hT
        have HD : Hid (doN l (j + 1) = addG (doN l j) F) := hD2
        clear hT hD2
        go_wp2_with fail
        refine H13.out.mono ?_
        rintro e w3 ⟨rfl, hT', -⟩
        go_wp2_with fail
        exact ⟨⟨j + 1, by omega, by go_num, by rw [HD.out]; exact hT'⟩, by simp [intOf]; omega⟩
    · obtain rfl : j = l.length := by omega
      have d0 : decide ((l.length : Int) < (l.length : Int)) = false := by simp
      obtain ⟨G, hG⟩ : ∃ G, G = doN l l.length := ⟨_, rfl⟩
      rw [← hG] at hT
      clear hG hlt hc
      have H20 : Hid (Calls Try.prog 20 #[.pointer (some ⟨t, 0, none⟩), .int .i64 g] wr fun e w' => e = .returned (.int .i64 (dep G g)) ∧ Tr w w' t G ∧ Below wr.heap.size wr w') := depT g hT
      go_wp2_with fail
      refine H20.out.mono ?_
      rintro e w3 ⟨rfl, h3, -⟩
      clear hT H20
      have H27 := kidsT g h3
      go_wp2_with fail
      refine H27.mono ?_
      rintro e w4 ⟨ak, ck, rfl, hI, h4, -⟩
      clear h3 H27
      have hok := h4.ok
      have hkl := kids_len G g
      have hgl := hok.le
      have hdl := dep_le hok g
      have hdg : -1 ≤ dep G g := by unfold dep; omega
      have HK : Hid (∀ k ∈ kids G g, dep G k = dep G g + 1 ∧ par G k = g) := fun k hk => dep_kid hok hk
      have HS : Hid (∀ i, i < (kids G g).length → ∀ (h : i < (kids G g).length), sumB (fun k => (bel G k).length) ((kids G g).take (i + 1)) = sumB (fun k => (bel G k).length) ((kids G g).take i) + (bel G (kids G g)[i]).length) := fun i hi h => sumB_take _ _ i h
      have HB : Hid (∀ i, i ≤ 64 → sumB (fun k => (bel G k).length) ((kids G g).take i) ≤ 4096) := fun i hi => by
        have := sumB_le (fun k => (bel G k).length) ((kids G g).take i) 64 (fun x => Nat.le_trans (bel_len G x) hgl)
        rw [List.length_take] at this
        have h2 : min i (kids G g).length * 64 ≤ 64 * 64 := Nat.mul_le_mul_right _ (by omega)
        omega
      have HE : Hid (lv G g = true → 0 ≤ dep G g ∧ (bel G g).length = 1 + sumB (fun k => (bel G k).length) (kids G g)) := fun h => ⟨dep_pos hok h, bel_kids hok h⟩
      have HZ : Hid (lv G g = false → dep G g = -1 ∧ kids G g = []) := fun h => ⟨dep_dead h, kids_dead hok h⟩
      obtain ⟨K, hK⟩ : ∃ K, K = kids G g := ⟨_, rfl⟩
      obtain ⟨D, hD⟩ : ∃ D, D = dep G g := ⟨_, rfl⟩
      obtain ⟨S, hS⟩ : ∃ S : Nat → Nat, S = fun i => sumB (fun k => (bel G k).length) (K.take i) := ⟨_, rfl⟩
      have HK2 : Hid (∀ i (h : i < K.length), S (i + 1) = S i + (bel G K[i]).length) := by subst hS; subst hK; exact fun i h => HS.out i h h
      have HB2 : Hid (∀ i, i ≤ 64 → S i ≤ 4096) := by subst hS; subst hK; exact HB.out
      have HE2 : Hid (lv G g = true → 0 ≤ D ∧ (bel G g).length = 1 + S K.length) := by
        subst hS; subst hK; subst hD
        have := HE.out
        simpa [Hid] using this
      have HS0 : Hid (S 0 = 0) := by subst hS; rfl
      rw [← hK] at HK HZ hI hkl ⊢
      rw [← hD] at HK HZ hdl hdg ⊢
      clear hK hD hS HS HB HE
      go_wp2_with fail
      go_loopw [10, 11] (fun s10 s11 wx => ∃ i : Nat, i ≤ K.length ∧ s11 = .int .i64 i ∧ s10 = .int .i64 ((1 + S i : Nat) : Int) ∧ Ints wx ak K ∧ Tr w wx t G) (fun _ s11 _ => K.length - (intOf s11).toNat)
      case atStart => exact ⟨0, by omega, rfl, by rw [HS0.out]; rfl, hI, h4⟩
      case round =>
        clear hI h4
        obtain ⟨i, hi, rfl, rfl, hI, h4⟩ := hrel
        by_cases hil : i < K.length
        · have d2 : decide ((i : Int) < (K.length : Int)) = true := by simp; omega
          have d3 : (D + 1 != D + 1) = false := by simp
          have d4 : (g != g) = false := by simp
          obtain ⟨x, hx⟩ : ∃ x, x = K[i] := ⟨_, rfl⟩
          obtain ⟨hk1, hk2⟩ := HK.out x (by rw [hx]; exact List.getElem_mem _)
          have hs1 := HK2.out i hil
          have hs2 := HB2.out (i + 1) (by omega)
          have HAT : Hid (∀ W, Ints W ak K → ∃ b off, ak = some ⟨b, off, none⟩ ∧ W.cell? ⟨b, off + i, none⟩ = some (.int .i64 x)) := fun W h => by
            obtain ⟨b, off, h1, h2⟩ := h i hil
            exact ⟨b, off, h1, by rw [hx]; exact h2⟩
          rw [← hx] at hs1
          have H20 : Hid (Calls Try.prog 20 #[.pointer (some ⟨t, 0, none⟩), .int .i64 x] wr fun e w' => e = .returned (.int .i64 (D + 1)) ∧ Tr w w' t G ∧ Below wr.heap.size wr w') := by
            have := depT x h4
            rw [hk1] at this
            exact this
          have HP : Hid (∀ W, Tr w W t G → Calls Try.prog 18 #[.pointer (some ⟨t, 0, none⟩), .int .i64 x] W fun e w' => e = .returned (.int .i64 g) ∧ w' = W) := fun W h => by
            have := parT x h
            rw [hk2] at this
            exact this
          have HQ : Hid (∀ W, Tr w W t G → Calls Try.prog 25 #[.pointer (some ⟨t, 0, none⟩), .int .i64 x] W fun e w' => ∃ a cap, e = .returned (.slice a (bel G x).length cap) ∧ Ints w' a (bel G x) ∧ Tr w w' t G ∧ Below W.heap.size W w') := fun W h => belT x h
          obtain ⟨N, hN⟩ : ∃ N, N = (bel G x).length := ⟨_, rfl⟩
          rw [← hN] at HQ hs1
          obtain ⟨S1, hS1⟩ : ∃ S1, S1 = S i := ⟨_, rfl⟩
          obtain ⟨S2, hS2⟩ : ∃ S2, S2 = S (i + 1) := ⟨_, rfl⟩
          rw [← hS1, ← hS2] at hs1
          rw [← hS2] at hs2
          rw [← hS1]
          have HS2 : Hid (S (i + 1) = S1 + N) := by show _ = _; rw [← hS2, hs1]
          have hs3 : S1 + N ≤ 4096 := by omega
          clear hx hk1 hk2 hN hS1 hS2 hs1 hs2 HK HK2 HB2 HE2 HZ HS0
          obtain ⟨b, off, rfl, k1⟩ := HAT.out wr hI
          go_wp2_with fail
          refine H20.out.mono ?_
          rintro e w5 ⟨rfl, h5, b5⟩
          have hI5 := hI.later b5
          obtain ⟨b', off', e', k5⟩ := HAT.out w5 hI5
          have e'' := Option.some.inj e'
          injection e'' with e1 e2
          subst e1
          subst e2
          clear hI h4 b5 k1 H20 e'
          go_wp2_with fail
          refine (HP.out _ h5).mono ?_
          rintro e w6 ⟨rfl, rfl⟩
          go_wp2_with fail
          refine (HQ.out _ h5).mono ?_
          rintro e w7 ⟨aq, cq, rfl, -, h7, b7⟩
          go_wp2_with fail
          exact ⟨⟨i + 1, by omega, by go_num, by rw [HS2.out]; go_num, hI5.later b7, h7⟩, by simp [intOf]; omega⟩
        · obtain rfl : i = K.length := by omega
          have d2 : decide ((K.length : Int) < (K.length : Int)) = false := by simp
          have H16 : Hid (Calls Try.prog 16 #[.pointer (some ⟨t, 0, none⟩), .int .i64 g] wr fun e w' => e = .returned (.bool (lv G g)) ∧ w' = wr) := liveT g h4
          cases hlg : lv G g with
          | false =>
            obtain ⟨rfl, hK0⟩ := HZ.out hlg
            have hK0' : ((K.length : Int) == 0) = true := by rw [hK0]; rfl
            rw [hlg] at H16
            clear hlg HZ HE2 HK HK2 HB2 HS0 hK0 hI
            go_wp2_with fail
            refine H16.out.mono ?_
            rintro e w5 ⟨rfl, rfl⟩
            go_wp2_with fail
            go_ret
            exact ⟨rfl, h4.bel⟩
          | true =>
            obtain ⟨hD0, hb⟩ := HE2.out hlg
            have HQ : Hid (Calls Try.prog 25 #[.pointer (some ⟨t, 0, none⟩), .int .i64 g] wr fun e w' => ∃ a cap, e = .returned (.slice a (bel G g).length cap) ∧ Ints w' a (bel G g) ∧ Tr w w' t G ∧ Below wr.heap.size wr w') := belT g h4
            rw [hb] at HQ
            rw [hlg] at H16
            have d3 : decide (0 ≤ D) = true := by simp; omega
            have d4 : decide (D ≤ 7) = true := by simp; omega
            obtain ⟨N, hN⟩ : ∃ N, N = 1 + S K.length := ⟨_, rfl⟩
            rw [← hN] at HQ ⊢
            have d5 : ((N : Int) == (N : Int)) = true := by simp
            clear hlg HZ HE2 HK HK2 HB2 HS0 hI hb hN
            go_wp2_with fail
            refine H16.out.mono ?_
            rintro e w5 ⟨rfl, rfl⟩
            go_wp2_with fail
            refine HQ.out.mono ?_
            rintro e w6 ⟨aq, cq, rfl, -, h6, b6⟩
            go_wp2_with fail
            go_ret
            exact ⟨rfl, h6.bel⟩
theorem depths_walk (a : Option Addr) (cap : Nat) (l : List Ac) (g : Int) (w : World) (hc : ActsAt w a l) : Calls Try.prog 6 #[.slice a l.length cap, .int .i64 g] w fun e w' => e = .returned (.bool true) ∧ Below w.heap.size w w' := by
  by_cases h : 100 < l.length
  · exact depths_out a cap _ g w h
  · exact depths_in a cap l g w (by omega) hc
end Go.Proofs.Ytbceadnhfihlfaa
