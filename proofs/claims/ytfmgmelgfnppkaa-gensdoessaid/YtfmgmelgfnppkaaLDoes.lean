/-
  The law GensDoes walked.
-/
import Derived.Test.YtfmgmelgfnppkaaBoth
namespace Go.Proofs.Ytfmgmelgfnppkaa
open Go.RowKit

theorem does_out (a : Option Addr) (cap n : Nat) (i : Int) (b : Option Addr) (cb k : Nat) (w : World) (h : decide ((80 : Int) < (n : Int)) = true ∨ (decide ((80 : Int) < (n : Int)) = false ∧ decide ((80 : Int) < (k : Int)) = true)) :
    Calls Try.prog 3 #[.slice a n cap, .int .i64 i, .slice b k cb] w fun e w' => e = .returned (.bool true) ∧ Below w.heap.size w w' := by
  rcases h with q1 | ⟨q1, q2⟩
  all_goals
    go_enter Try.func3, Try.ntmps3
    go_wp2_with (go_at_call 9; refine (works_any _).mono ?_; rintro e w1 ⟨rfl, hb⟩)
    go_ret
    exact ⟨rfl, hb⟩

set_option maxRecDepth 100000 in
set_option maxHeartbeats 8000000 in
theorem does_in (a : Option Addr) (cap : Nat) (l : List Ac) (i : Int) (bg : Option Addr) (cg : Nat) (G : List Int) (w : World) (hl : l.length ≤ 80) (hgl : G.length ≤ 80) (hc : ActsAt w a l) (hi : (Lit.int .i64 i).wf = true) (hG : Ints w bg G) :
    Calls Try.prog 3 #[.slice a l.length cap, .int .i64 i, .slice bg G.length cg] w fun e w' => e = .returned (.bool true) ∧ Below w.heap.size w w' := by
  have d1 : decide ((80 : Int) < (l.length : Int)) = false := by simp; omega
  have d2 : decide ((80 : Int) < (G.length : Int)) = false := by simp; omega
  have HGI : Hid (Ints w bg G) := hG
  have HCA : Hid (ActsAt w a l) := hc
  clear hG hc
  go_enter Try.func3, Try.ntmps3
  go_wp2_with fail
  refine (works_any _).mono ?_
  rintro e w1 ⟨rfl, hb1⟩
  go_wp2_with fail
  refine (newO hb1).mono ?_
  rintro e w2 ⟨x, m, rfl, h2, -⟩
  have h3 := Bo.start h2
  obtain ⟨B, hB⟩ : ∃ B, B = w2.heap.size := ⟨_, rfl⟩
  rw [← hB] at h3
  have HB : Hid (B = w2.heap.size) := hB
  clear hb1 d1 d2 h2 hB
  go_wp2_with fail
  rw [← HB.out]
  go_loopw [10] (fun s10 wr => ∃ j : Nat, j ≤ l.length ∧ s10 = .int .i64 j ∧ Bo w wr x m B B (doN l j) (doN l j)) (fun s10 _ => l.length - (intOf s10).toNat)
  case atStart => exact ⟨0, by omega, rfl, h3⟩
  case round =>
    clear h3
    obtain ⟨j, hj, rfl, hT⟩ := hrel
    have hdl := doN_len l j hj
    by_cases hlt : j < l.length
    · obtain ⟨b, off, rfl, k0, k1, k2, k3, hw⟩ := (HCA.out.below hT.bel).at hlt
      have hD := doN_succ l j hlt
      obtain ⟨r, hr⟩ : ∃ r, r = l[j] := ⟨_, rfl⟩
      rw [← hr] at k0 k1 k2 k3 hw hD
      have HAT : Hid (∀ W, Below w.heap.size w W → W.cell? ⟨b, off + j * 4, none⟩ = some (.int .i64 r.k) ∧ W.cell? ⟨b, off + j * 4 + 1, none⟩ = some (.int .i64 r.id) ∧ W.cell? ⟨b, off + j * 4 + 2, none⟩ = some (.int .i64 r.g) ∧ W.cell? ⟨b, off + j * 4 + 3, none⟩ = some (.bool r.o)) := fun W hW => by
        obtain ⟨b', off', e', c0, c1, c2, c3, -⟩ := (HCA.out.below hW).at hlt
        injection e' with e'
        injection e' with e1 e2
        subst e1
        subst e2
        rw [← hr] at c0 c1 c2 c3
        exact ⟨c0, c1, c2, c3⟩
      have d0 : decide ((j : Int) < (l.length : Int)) = true := by simp; omega
      obtain ⟨L, hL⟩ : ∃ L, L = doN l j := ⟨_, rfl⟩
      rw [← hL] at hT hD hdl
      have C1 := hid (fun n => (hT.drewN n).doP (by omega) r hw)
      have C2 : Hid (∀ W, Bo w W x m B B (doA L r) L → Calls Try.prog 12 #[.pointer (some ⟨B, 0, none⟩), .agg #[.int .i64 r.k, .int .i64 r.id, .int .i64 r.g, .bool r.o]] W fun e w' => e = .returned (.int .i64 (doR L r)) ∧ Bo w w' x m B B (doA L r) (doA L r)) := fun W h => h.doQ (by omega) r
      have HD : Hid (doN l (j + 1) = doA L r) := hD
      have z0 : (doR L r != doR L r) = false := by simp
      obtain ⟨R, hR⟩ : ∃ R, R = doR L r := ⟨_, rfl⟩
      rw [← hR] at C1 C2 z0
      clear hr hw hD hT hL hR
      go_wp2_with fail
      go_region_with (first | (go_at_call 11; refine (C1.out 1).mono ?_; rintro e w3 ⟨rfl, h3⟩; obtain ⟨c0, c1, c2, c3⟩ := HAT.out w3 h3.bel) | (go_at_call 12; refine (C2.out _ h3).mono ?_; rintro e w4 ⟨rfl, h4⟩))
      all_goals
        rw [← HD.out] at h4
        go_wp2
        exact ⟨⟨j + 1, by omega, by go_num, h4⟩, by simp [intOf]; omega⟩
    · obtain rfl : j = l.length := by omega
      have d0 : decide ((l.length : Int) < (l.length : Int)) = false := by simp
      obtain ⟨L, hL⟩ : ∃ L, L = doN l l.length := ⟨_, rfl⟩
      rw [← hL] at hT hdl
      have hLl : L.length ≤ 80 := by omega
      clear hL hdl hlt
      have HOK : Hid (Ok L) := hT.ow.ls.ok
      have C3 := hid (rget B B L i _ hT.ref (by omega))
      have HT := hid hT
      clear hT
      obtain ⟨g, hg⟩ : ∃ v, v = grpN L i := ⟨_, rfl⟩
      obtain ⟨ag, hag⟩ : ∃ v, v = oldN L i := ⟨_, rfl⟩
      rw [← hg, ← hag] at C3
      have HG : Hid (g = grpN L i) := hg
      have HAG : Hid (ag = oldN L i) := hag
      clear hg hag
      go_wp2_with fail
      refine C3.out.mono ?_
      rintro e w3 ⟨rfl, n3, rfl⟩
      have h4 := HT.out.drewN n3
      obtain ⟨w4, hw4⟩ : ∃ w4, w4 = wr.drewN n3 := ⟨_, rfl⟩
      rw [← hw4] at h4
      rw [← hw4]
      clear HT C3 hw4
      go_wp2_with fail
      go_loopw [13] (fun s13 wr => ∃ q : Nat, q ≤ G.length ∧ s13 = .int .i64 q ∧ Bo w wr x m B B L L) (fun s13 _ => G.length - (intOf s13).toNat)
      case atStart => exact ⟨0, by omega, rfl, h4⟩
      case round =>
        clear h4
        obtain ⟨q, hq, rfl, hT⟩ := hrel
        by_cases hql : q < G.length
        · have hqq : decide ((q : Int) < (G.length : Int)) = true := by simp; omega
          obtain ⟨b2, o2, rfl, hgc, -⟩ := (HGI.out.later hT.bel).get hql
          obtain ⟨z, hz⟩ : ∃ z, z = G[q] := ⟨_, rfl⟩
          rw [← hz] at hgc
          obtain ⟨n, hn⟩ : ∃ n, n = cntL L z := ⟨_, rfl⟩
          have K1 : Hid (∀ q : Up wr, Calls Try.prog 14 #[.pointer (some ⟨x, 0, none⟩), .int .i64 z] q.p fun e w' => e = .returned (.int .i64 n) ∧ Below q.p.heap.size q.p w') := fun q => hn ▸ pcount x m L z q.p (hT.ow.ls.below q.h) (by omega)
          have K2 : Hid (∀ q : Up wr, Calls Try.prog 15 #[.pointer (some ⟨B, 0, none⟩), .int .i64 z] q.p fun e w' => e = .returned (.int .i64 n) ∧ Below q.p.heap.size q.p w') := fun q => hn ▸ (rcount B B L z q.p (hT.ref.below q.h) (by omega)).mono fun _ _ ⟨he, hw⟩ => ⟨he, by rw [hw]; exact Below.refl _ _⟩
          have z1 : ((n : Int) != (n : Int)) = false := by simp
          have l1 := Up.cell hgc
          have hne := Up.any wr
          clear hz hn hgc
          go_wp2_with fail
          refine wp_region_up (by kernel_rfl) (by kernel_rfl) ?_
          repeat (go_big_quiet_step (first | (go_at_call 14; exact Up.call (K1.out _)) | (go_at_call 15; exact Up.call (K2.out _))))
          refine wpQuiet_nil ?_
          intro w17 hw'
          obtain ⟨⟨_, hbw⟩, rfl⟩ := hw'
          have h7 := hT.later hbw
          clear l1 hne K1 K2 hT hbw
          go_wp2
          exact ⟨⟨q + 1, by omega, by go_num, h7⟩, by simp [intOf]; omega⟩
        · obtain rfl : q = G.length := by omega
          have hqq : decide ((G.length : Int) < (G.length : Int)) = false := by simp
          have C4 := hid (orderO hT.ow (by omega) cg (HGI.out.later hT.bel) (by omega))
          have HT := hid hT
          clear hT
          go_wp2_with fail
          refine C4.out.mono ?_
          rintro e w5 ⟨a5, c5, N, hN, rfl, hI5, -, hb5⟩
          have h5 := HT.out.later hb5
          have C5 := hid (rorder B B L bg cg G w5 h5.ref (HGI.out.later h5.bel) (by omega) (by omega))
          have HN : Hid (N = iL L G) := hN
          have HI5 := hid hI5
          have H5 := hid h5
          clear hI5 hb5 h5 hN C4 HT
          go_wp2_with fail
          refine C5.out.mono ?_
          rintro e w6 ⟨a6, c6, N2, hN2, rfl, hI6, hb6⟩
          have e2 : N2 = N := by rw [hN2, HN.out]; rfl
          subst e2
          have h6 := H5.out.later hb6
          have hnl : N2.length ≤ 80 := by
            rw [HN.out]
            unfold iL
            rw [List.length_map, ordL_len HOK.out]
            exact Nat.le_trans List.countP_le_length (by omega)
          have C6 := hid (rowT a5 a6 c5 c6 N2 w6 (HI5.out.later hb6) hI6 (by omega))
          have C7 := hid (fun n => groupO (h6.drewN n).ow hi)
          rw [← HG.out] at C7
          clear hN2 hI6 hb6 h6 C5 H5 HI5 HN hnl
          have z2 : (g == g) = true := by simp
          have z3 : (ag == ag) = true := by simp
          go_wp2_with fail
          refine C6.out.mono ?_
          rintro e w7 ⟨rfl, n7, rfl⟩
          clear C6
          go_wp2_with fail
          refine (C7.out n7).mono ?_
          rintro e w8 ⟨rfl, h8, -⟩
          have C8 := hid (oldO h8 hi)
          rw [← HAG.out] at C8
          clear h8 C7
          go_wp2_with fail
          refine C8.out.mono ?_
          rintro e w9 ⟨rfl, h9, -⟩
          have HB9 := hid h9.bel
          clear h9 C8
          go_wp2_with fail
          go_ret
          exact ⟨rfl, HB9.out⟩
theorem does_walk (a : Option Addr) (cap : Nat) (l : List Ac) (i : Int) (bg : Option Addr) (cg : Nat) (G : List Int) (w : World) (hc : ActsAt w a l) (hi : (Lit.int .i64 i).wf = true) (hG : Ints w bg G) :
    Calls Try.prog 3 #[.slice a l.length cap, .int .i64 i, .slice bg G.length cg] w fun e w' => e = .returned (.bool true) ∧ Below w.heap.size w w' := by
  by_cases h : l.length ≤ 80 ∧ G.length ≤ 80
  · exact does_in a cap l i bg cg G w h.1 h.2 hc hi hG
  · refine does_out a cap _ i bg cg _ w ?_
    simp only [decide_eq_true_eq, decide_eq_false_iff_not]
    omega
end Go.Proofs.Ytfmgmelgfnppkaa
