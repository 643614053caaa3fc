/-
  The law TreeGoes walked.
-/
import Derived.Test.YtbceadnhfihlfaaOpen
import Derived.Test.YtbceadnhfihlfaaSums
namespace Go.Proofs.Ytbceadnhfihlfaa
open Go.RowKit

theorem goes_out (a : Option Addr) (cap n : Nat) (g o : Int) (w : World) (h : 100 < n) :
    Calls Try.prog 5 #[.slice a n cap, .int .i64 g, .int .i64 o] w fun e w' => e = .returned (.bool true) ∧ Below w.heap.size w w' := by
  go_enter Try.func5, Try.ntmps5
  go_wp2_with (go_at_call 8; refine (works_any _).mono ?_; rintro e w1 ⟨rfl, hb⟩)
  go_ret
  exact ⟨rfl, hb⟩
theorem remG_length (G : Gr) (g : Int) : (remG G g).length = G.length := by
  unfold remG
  split <;> simp

set_option maxRecDepth 100000 in
set_option maxHeartbeats 4000000 in
theorem goes_in (a : Option Addr) (cap : Nat) (l : List Ac) (g o : Int) (w : World) (hl : l.length ≤ 100) (hc : ActsAt w a l) :
    Calls Try.prog 5 #[.slice a l.length cap, .int .i64 g, .int .i64 o] w fun e w' => e = .returned (.bool true) ∧ Below w.heap.size w w' := by
  have d1 : decide ((100 : Int) < (l.length : Int)) = false := by simp; omega
  go_enter Try.func5, Try.ntmps5
  go_wp2_with fail
  refine (works_any _).mono ?_
  rintro e w1 ⟨rfl, hb1⟩
  go_wp2_with fail
  refine (newT hb1).mono ?_
  rintro e w2 ⟨t, rfl, h2, -⟩
  clear hb1 d1
  go_wp2
  go_loopw [9, 10] (fun s9 s10 wr => ∃ (j m : Nat) (G : Gr), j ≤ l.length ∧ s10 = .int .i64 j ∧ s9 = .int .i64 m ∧ G.length = m + 1 ∧ Tr w wr t G) (fun _ s10 _ => l.length - (intOf s10).toNat)
  case atStart => exact ⟨0, 0, newG, by omega, rfl, rfl, rfl, h2⟩
  case round =>
    clear h2
    obtain ⟨j, m, G, hj, rfl, rfl, hlen, hT⟩ := hrel
    have hle := hT.ok.le
    by_cases hlt : j < l.length
    · obtain ⟨b, off, rfl, e0, e1⟩ := (hc.below hT.bel).at hlt
      obtain ⟨F, hF⟩ : ∃ F, F = l[j].g := ⟨_, rfl⟩
      obtain ⟨O, hO⟩ : ∃ F, F = l[j].off := ⟨_, rfl⟩
      rw [← hF] at e0
      rw [← hO] at e1
      have d0 : decide ((j : Int) < (l.length : Int)) = true := by simp; omega
      clear hF hO
      cases O with
      | true =>
        have H11 : Hid (Calls Try.prog 11 #[.pointer (some ⟨t, 0, none⟩), .int .i64 F] wr fun e w' => e = .returned (.int .i64 (remE G F)) ∧ Tr w w' t (remG G F) ∧ Ty pt wr w') := remT F hT
        have HLEN : Hid ((remG G F).length = m + 1) := by show _ = _; rw [remG_length, hlen]
        clear hT hlen
        go_wp2_with fail
        refine H11.out.mono ?_
        rintro e w3 ⟨rfl, hT', -⟩
        go_wp2_with fail
        exact ⟨⟨j + 1, m, _, by omega, by go_num, rfl, HLEN.out, hT'⟩, by simp [intOf]; omega⟩
      | false =>
        have H13 : Hid (Calls Try.prog 13 #[.pointer (some ⟨t, 0, none⟩), .int .i64 F] wr fun e w' => e = .returned (.tuple #[.int .i64 (addN G F), .int .i64 (addE G F)]) ∧ Tr w w' t (addG G F) ∧ Ty pt wr w') := addT F hT
        by_cases hE : addE G F = 0
        · obtain ⟨e2, e3⟩ := addE_ok hE
          have HLEN : Hid ((addG G F).length = m + 1 + 1) := by show _ = _; rw [e2]; simp [hlen]
          have e4 : addN G F = (m : Int) + 1 := by rw [e3]; omega
          rw [hE, e4] at H13
          have d3 : ((m : Int) + 1 != (m : Int) + 1) = false := by simp
          have hm : m ≤ 63 := by omega
          clear hT hlen hE e2 e3 e4
          go_wp2_with fail
          refine H13.out.mono ?_
          rintro e w3 ⟨rfl, hT', -⟩
          go_wp2_with fail
          exact ⟨⟨j + 1, m + 1, _, by omega, by go_num, by go_num, HLEN.out, hT'⟩, by simp [intOf]; omega⟩
        · have e2 := addE_err hE
          have HLEN : Hid ((addG G F).length = m + 1) := by show _ = _; rw [e2, hlen]
          obtain ⟨E, hEE⟩ : ∃ E, E = addE G F := ⟨_, rfl⟩
          rw [← hEE] at H13 hE
          have d3 : (E == 0) = false := by simpa using hE
          clear hT hlen hE e2 hEE
          go_wp2_with fail
          refine H13.out.mono ?_
          rintro e w3 ⟨rfl, hT', -⟩
          go_wp2_with fail
          exact ⟨⟨j + 1, m, _, by omega, by go_num, rfl, HLEN.out, hT'⟩, by simp [intOf]; omega⟩
    · obtain rfl : j = l.length := by omega
      have d0 : decide ((l.length : Int) < (l.length : Int)) = false := by simp
      clear hlt hc
      have HL : Hid (∀ W x, Tr w W t G → Calls Try.prog 16 #[.pointer (some ⟨t, 0, none⟩), .int .i64 x] W fun e w' => e = .returned (.bool (lv G x)) ∧ w' = W) := fun W x h => liveT x h
      have HK : Hid (∀ W, Tr w W t G → Calls Try.prog 27 #[.pointer (some ⟨t, 0, none⟩), .int .i64 g] W fun e w' => ∃ a cap, e = .returned (.slice a (kids G g).length cap) ∧ Ints w' a (kids G g) ∧ Tr w w' t G ∧ Below W.heap.size W w') := fun W h => kidsT g h
      have HR : Hid (∀ W, Tr w W t G → Calls Try.prog 11 #[.pointer (some ⟨t, 0, none⟩), .int .i64 g] W fun e w' => e = .returned (.int .i64 (remE G g)) ∧ Tr w w' t (remG G g) ∧ Ty pt W w') := fun W h => remT g h
      have hgo := @remE_ok G g
      have herr := @remG_err G g
      have hwent := @remG_went G g
      have hkl := kids_len G g
      obtain ⟨E, hE⟩ : ∃ E, E = remE G g := ⟨_, rfl⟩
      obtain ⟨G', hG'⟩ : ∃ G', G' = remG G g := ⟨_, rfl⟩
      obtain ⟨K, hK⟩ : ∃ K, K = kids G g := ⟨_, rfl⟩
      have hlen' : G'.length = m + 1 := by rw [hG', remG_length, hlen]
      rw [← hE, ← hK] at hgo
      rw [← hE, ← hG'] at herr hwent
      rw [← hE, ← hG'] at HR
      rw [← hK] at HK hkl
      have HLo : Hid (∀ W, Tr w W t G → Calls Try.prog 16 #[.pointer (some ⟨t, 0, none⟩), .int .i64 o] W fun e w' => e = .returned (.bool (lv G o)) ∧ w' = W) := fun W h => HL.out W o h
      have HLg : Hid (∀ W, Tr w W t G → Calls Try.prog 16 #[.pointer (some ⟨t, 0, none⟩), .int .i64 g] W fun e w' => e = .returned (.bool (lv G g)) ∧ w' = W) := fun W h => HL.out W g h
      obtain ⟨b, hb⟩ : ∃ b, b = lv G o := ⟨_, rfl⟩
      rw [← hb] at HLo
      by_cases hE0 : E = 0
      · obtain ⟨hg1, hg2, hg3⟩ := hgo.1 hE0
        have hw1 : lv G' g = false := by rw [hwent hE0]; simp
        have hw2 : lv G' o = (b && decide (o ≠ g)) := by rw [hwent hE0, hb]
        have HMg : Hid (∀ W, Tr w W t G' → Calls Try.prog 16 #[.pointer (some ⟨t, 0, none⟩), .int .i64 g] W fun e w' => e = .returned (.bool false) ∧ w' = W) := fun W h => by
          have := liveT g h
          rw [hw1] at this
          exact this
        have HN : Hid (∀ W, Tr w W t G' → Calls Try.prog 15 #[.pointer (some ⟨t, 0, none⟩)] W fun e w' => e = .returned (.int .i64 ((m : Int) + 1)) ∧ w' = W) := fun W h => by
          have := lenT h
          rw [hlen'] at this
          exact this
        have hm : m ≤ 63 := by omega
        have q1 : (g != 0) = true := by simpa using hg2
        rw [hg1] at HLg
        rw [hg3] at HK
        rw [hE0] at HR
        have q2 : ((m : Int) + 1 == (m : Int) + 1) = true := by simp
        by_cases hog : o = g
        · have q3 : (o == g) = true := by simpa using hog
          clear hgo herr hwent hE hG' hK hlen' hg1 hg2 hg3 hw1 hw2 hlen hle hb hE0 hkl HL hog
          go_wp2_with fail
          refine (HLo.out _ hT).mono ?_
          rintro e w3 ⟨rfl, rfl⟩
          go_wp2_with fail
          refine (HLg.out _ hT).mono ?_
          rintro e w3 ⟨rfl, rfl⟩
          go_wp2_with fail
          refine (HK.out _ hT).mono ?_
          rintro e w4 ⟨ak, ck, rfl, -, h4, -⟩
          go_wp2_with fail
          refine (HR.out _ h4).mono ?_
          rintro e w5 ⟨rfl, h5, -⟩
          go_wp2_with fail
          refine (HMg.out _ h5).mono ?_
          rintro e w6 ⟨rfl, rfl⟩
          go_wp2_with fail
          refine (HN.out _ h5).mono ?_
          rintro e w6 ⟨rfl, rfl⟩
          go_wp2_with fail
          go_ret
          exact ⟨by simp [go_sem], h5.bel⟩
        · have q3 : (o == g) = false := by simpa using hog
          have HMo : Hid (∀ W, Tr w W t G' → Calls Try.prog 16 #[.pointer (some ⟨t, 0, none⟩), .int .i64 o] W fun e w' => e = .returned (.bool b) ∧ w' = W) := fun W h => by
            have := liveT o h
            rw [hw2] at this
            simpa [hog] using this
          clear hgo herr hwent hE hG' hK hlen' hg1 hg2 hg3 hw1 hw2 hlen hle hb hE0 hkl HL hog
          go_wp2_with fail
          refine (HLo.out _ hT).mono ?_
          rintro e w3 ⟨rfl, rfl⟩
          go_wp2_with fail
          refine (HLg.out _ hT).mono ?_
          rintro e w3 ⟨rfl, rfl⟩
          go_wp2_with fail
          refine (HK.out _ hT).mono ?_
          rintro e w4 ⟨ak, ck, rfl, -, h4, -⟩
          go_wp2_with fail
          refine (HR.out _ h4).mono ?_
          rintro e w5 ⟨rfl, h5, -⟩
          go_wp2_with fail
          refine (HMg.out _ h5).mono ?_
          rintro e w6 ⟨rfl, rfl⟩
          go_wp2_with fail
          refine (HMo.out _ h5).mono ?_
          rintro e w6 ⟨rfl, rfl⟩
          go_wp2_with fail
          refine (HN.out _ h5).mono ?_
          rintro e w6 ⟨rfl, rfl⟩
          go_wp2_with fail
          go_ret
          exact ⟨by simp [go_sem], h5.bel⟩
      · obtain rfl := herr hE0
        have q1 : (E == 0) = false := by simpa using hE0
        have q1' : (E != 0) = true := by simpa using hE0
        cases hlg : lv G' g with
        | false =>
          rw [hlg] at HLg
          clear hgo herr hwent hE hG' hK hlen' hlen hle hb hE0 hkl HL hlg
          go_wp2_with fail
          refine (HLo.out _ hT).mono ?_
          rintro e w3 ⟨rfl, rfl⟩
          go_wp2_with fail
          refine (HLg.out _ hT).mono ?_
          rintro e w3 ⟨rfl, rfl⟩
          go_wp2_with fail
          refine (HK.out _ hT).mono ?_
          rintro e w4 ⟨ak, ck, rfl, -, h4, -⟩
          go_wp2_with fail
          refine (HR.out _ h4).mono ?_
          rintro e w5 ⟨rfl, h5, -⟩
          go_wp2_with fail
          refine (HLg.out _ h5).mono ?_
          rintro e w6 ⟨rfl, rfl⟩
          go_wp2_with fail
          refine (HLo.out _ h5).mono ?_
          rintro e w6 ⟨rfl, rfl⟩
          go_wp2_with fail
          go_ret
          exact ⟨by simp [go_sem], h5.bel⟩
        | true =>
          rw [hlg] at HLg
          by_cases hg0 : g = 0
          · have q2 : (g != 0) = false := by simp [hg0]
            clear hgo herr hwent hE hG' hK hlen' hlen hle hb hE0 hkl HL hlg hg0
            go_wp2_with fail
            refine (HLo.out _ hT).mono ?_
            rintro e w3 ⟨rfl, rfl⟩
            go_wp2_with fail
            refine (HLg.out _ hT).mono ?_
            rintro e w3 ⟨rfl, rfl⟩
            go_wp2_with fail
            refine (HK.out _ hT).mono ?_
            rintro e w4 ⟨ak, ck, rfl, -, h4, -⟩
            go_wp2_with fail
            refine (HR.out _ h4).mono ?_
            rintro e w5 ⟨rfl, h5, -⟩
            go_wp2_with fail
            refine (HLg.out _ h5).mono ?_
            rintro e w6 ⟨rfl, rfl⟩
            go_wp2_with fail
            refine (HLo.out _ h5).mono ?_
            rintro e w6 ⟨rfl, rfl⟩
            go_wp2_with fail
            go_ret
            exact ⟨by simp [go_sem], h5.bel⟩
          · have q2 : (g != 0) = true := by simpa using hg0
            have hK0 : K ≠ [] := fun h => hE0 (hgo.2 ⟨hlg, hg0, h⟩)
            have hK1 : 0 < K.length := List.length_pos_iff.2 hK0
            have q3 : ((K.length : Int) == 0) = false := by simp; omega
            clear hgo herr hwent hE hG' hK hlen' hlen hle hb hE0 hkl HL hlg hg0 hK0
            go_wp2_with fail
            refine (HLo.out _ hT).mono ?_
            rintro e w3 ⟨rfl, rfl⟩
            go_wp2_with fail
            refine (HLg.out _ hT).mono ?_
            rintro e w3 ⟨rfl, rfl⟩
            go_wp2_with fail
            refine (HK.out _ hT).mono ?_
            rintro e w4 ⟨ak, ck, rfl, -, h4, -⟩
            go_wp2_with fail
            refine (HR.out _ h4).mono ?_
            rintro e w5 ⟨rfl, h5, -⟩
            go_wp2_with fail
            refine (HLg.out _ h5).mono ?_
            rintro e w6 ⟨rfl, rfl⟩
            go_wp2_with fail
            refine (HLo.out _ h5).mono ?_
            rintro e w6 ⟨rfl, rfl⟩
            go_wp2_with fail
            go_ret
            exact ⟨by simp [go_sem], h5.bel⟩
theorem goes_walk (a : Option Addr) (cap : Nat) (l : List Ac) (g o : Int) (w : World) (hc : ActsAt w a l) : Calls Try.prog 5 #[.slice a l.length cap, .int .i64 g, .int .i64 o] w fun e w' => e = .returned (.bool true) ∧ Below w.heap.size w w' := by
  by_cases h : 100 < l.length
  · exact goes_out a cap _ g o w h
  · exact goes_in a cap l g o w (by omega) hc
end Go.Proofs.Ytbceadnhfihlfaa
