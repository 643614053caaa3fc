/-
  The law TreeDoes walked.
-/
import Derived.Test.YtbceadnhfihlfaaBoth
import Derived.Test.YtbceadnhfihlfaaSums
namespace Go.Proofs.Ytbceadnhfihlfaa
open Go.RowKit

theorem does_out (a : Option Addr) (cap n : Nat) (g : Int) (w : World) (h : 100 < n) :
    Calls Try.prog 3 #[.slice a n cap, .int .i64 g] w fun e w' => e = .returned (.bool true) ∧ Below w.heap.size w w' := by
  go_enter Try.func3, Try.ntmps3
  go_wp2_with (go_at_call 8; refine (works_any _).mono ?_; rintro e w1 ⟨rfl, hb⟩)
  go_ret
  exact ⟨rfl, hb⟩

set_option maxRecDepth 100000 in
set_option maxHeartbeats 8000000 in
theorem does_in (a : Option Addr) (cap : Nat) (l : List Ac) (g : Int) (w : World) (hl : l.length ≤ 100) (hc : ActsAt w a l) :
    Calls Try.prog 3 #[.slice a l.length cap, .int .i64 g] w fun e w' => e = .returned (.bool true) ∧ Below w.heap.size w w' := by
  have d1 : decide ((100 : Int) < (l.length : Int)) = false := by simp; omega
  go_enter Try.func3, Try.ntmps3
  go_wp2_with fail
  refine (works_any _).mono ?_
  rintro e w1 ⟨rfl, hb1⟩
  go_wp2_with fail
  refine (newT hb1).mono ?_
  rintro e w2 ⟨t, rfl, h2, -⟩
  go_wp2_with fail
  refine (newB h2).mono ?_
  rintro e w3 ⟨r, rfl, h3⟩
  clear hb1 d1 h2
  go_wp2
  go_loopw [8] (fun s8 wr => ∃ j : Nat, j ≤ l.length ∧ s8 = .int .i64 j ∧ Bo w wr t r (doN l j)) (fun s8 _ => l.length - (intOf s8).toNat)
  case atStart => exact ⟨0, by omega, rfl, h3⟩
  case round =>
    clear h3
    obtain ⟨j, hj, rfl, hT⟩ := hrel
    by_cases hlt : j < l.length
    · obtain ⟨b, off, hab, e0, e1⟩ := (hc.below hT.bel).at hlt
      have HC : Hid (∀ W, Below w.heap.size w W → W.cell? ⟨b, off + j * 2, none⟩ = some (.int .i64 l[j].g)) := fun W h => by
        obtain ⟨b', off', hab', k0, -⟩ := (hc.below h).at hlt
        rw [hab] at hab'
        have e'' := Option.some.inj hab'
        injection e'' with e1 e2
        subst e1
        subst e2
        exact k0
      subst hab
      have hD := doN_succ l j hlt
      obtain ⟨F, hF⟩ : ∃ F, F = l[j].g := ⟨_, rfl⟩
      obtain ⟨O, hO⟩ : ∃ F, F = l[j].off := ⟨_, rfl⟩
      have hD2 : doN l (j + 1) = if O then remG (doN l j) F else addG (doN l j) F := by rw [hD, hF, hO]; rfl
      rw [← hF] at e0 HC
      rw [← hO] at e1
      have d0 : decide ((j : Int) < (l.length : Int)) = true := by simp; omega
      obtain ⟨G, hG⟩ : ∃ G, G = doN l j := ⟨_, rfl⟩
      rw [← hG] at hD2 hT
      clear hF hO hD hG
      cases O with
      | true =>
        have H11 : Hid (Calls Try.prog 11 #[.pointer (some ⟨t, 0, none⟩), .int .i64 F] wr fun e w' => e = .returned (.int .i64 (remE G F)) ∧ Mi w w' t r G (remG G F)) := remP F hT
        have H12 : Hid (∀ W, Mi w W t r G (remG G F) → Calls Try.prog 12 #[.pointer (some ⟨r, 0, none⟩), .int .i64 F] W fun e w' => e = .returned (.int .i64 (remE G F)) ∧ Bo w w' t r (remG G F)) := fun W h => remQ F h
        obtain ⟨E, hE⟩ : ∃ E, E = remE G F := ⟨_, rfl⟩
        obtain ⟨G1, hG1⟩ : ∃ G1, G1 = remG G F := ⟨_, rfl⟩
        rw [← hE, ← hG1] at H11 H12
        have HD : Hid (doN l (j + 1) = G1) := by show _ = _; rw [hD2, hG1]; rfl
        have z0 : (E != E) = false := by simp
        clear hT hD2 hE hG1
        go_wp2_with fail
        refine H11.out.mono ?_
        rintro e w3 ⟨rfl, hM⟩
        have e5 := HC.out w3 hM.bel
        clear e0 e1
        go_wp2_with fail
        refine (H12.out _ hM).mono ?_
        rintro e w4 ⟨rfl, hB⟩
        clear hM e5 H11 H12 HC
        have H15 : Hid (∀ W, Bo w W t r G1 → Calls Try.prog 15 #[.pointer (some ⟨t, 0, none⟩)] W fun e w' => e = .returned (.int .i64 G1.length) ∧ Below W.heap.size W w') := fun W h => (plen _ t G1 W h.p).mono fun _ _ ⟨h1, h2⟩ => ⟨h1, by rw [h2]; exact Below.refl _ _⟩
        have H16 : Hid (∀ W, Bo w W t r G1 → Calls Try.prog 16 #[.pointer (some ⟨t, 0, none⟩), .int .i64 g] W fun e w' => e = .returned (.bool (lv G1 g)) ∧ Below W.heap.size W w') := fun W h => (plive _ t G1 g W h.p).mono fun _ _ ⟨h1, h2⟩ => ⟨h1, by rw [h2]; exact Below.refl _ _⟩
        have H17 : Hid (∀ W, Bo w W t r G1 → Calls Try.prog 17 #[.pointer (some ⟨r, 0, none⟩), .int .i64 g] W fun e w' => e = .returned (.bool (lv G1 g)) ∧ Below W.heap.size W w') := fun W h => (rlive _ r G1 g W h.q).mono fun _ _ ⟨h1, h2⟩ => ⟨h1, by rw [h2]; exact Below.refl _ _⟩
        have H18 : Hid (∀ W, Bo w W t r G1 → Calls Try.prog 18 #[.pointer (some ⟨t, 0, none⟩), .int .i64 g] W fun e w' => e = .returned (.int .i64 (par G1 g)) ∧ Below W.heap.size W w') := fun W h => (ppar _ t G1 g W h.p).mono fun _ _ ⟨h1, h2⟩ => ⟨h1, by rw [h2]; exact Below.refl _ _⟩
        have H19 : Hid (∀ W, Bo w W t r G1 → Calls Try.prog 19 #[.pointer (some ⟨r, 0, none⟩), .int .i64 g] W fun e w' => e = .returned (.int .i64 (par G1 g)) ∧ Below W.heap.size W w') := fun W h => (rpar _ r G1 g W h.q).mono fun _ _ ⟨h1, h2⟩ => ⟨h1, by rw [h2]; exact Below.refl _ _⟩
        have H20 : Hid (∀ W, Bo w W t r G1 → Calls Try.prog 20 #[.pointer (some ⟨t, 0, none⟩), .int .i64 g] W fun e w' => e = .returned (.int .i64 (dep G1 g)) ∧ Below W.heap.size W w') := fun W h => pdepth _ t G1 g W h.p
        have H21 : Hid (∀ W, Bo w W t r G1 → Calls Try.prog 21 #[.pointer (some ⟨r, 0, none⟩), .int .i64 g] W fun e w' => e = .returned (.int .i64 (dep G1 g)) ∧ Below W.heap.size W w') := fun W h => rdepth _ r G1 g W h.q
        obtain ⟨gu, cu, gh, ch, U, -, c0, -, -, -, -⟩ := hB.q.open
        obtain ⟨n, hn⟩ : ∃ n : Nat, n = G1.length := ⟨_, rfl⟩
        obtain ⟨vl, hvl⟩ : ∃ v, v = lv G1 g := ⟨_, rfl⟩
        obtain ⟨vp, hvp⟩ : ∃ v, v = par G1 g := ⟨_, rfl⟩
        obtain ⟨vd, hvd⟩ : ∃ v, v = dep G1 g := ⟨_, rfl⟩
        rw [← hn] at H15 c0
        rw [← hvl] at H16 H17
        rw [← hvp] at H18 H19
        rw [← hvd] at H20 H21
        clear hn hvl hvp hvd
        have z1 : ((n : Int) != (n : Int)) = false := by simp
        have z2 : (vl != vl) = false := by simp
        have z3 : (vp != vp) = false := by simp
        have z4 : (vd != vd) = false := by simp
        have k0 := Up.cell c0
        have hne := Up.any w4
        go_wp2_with fail
        refine wp_region_up (by kernel_rfl) (by kernel_rfl) ?_
        repeat (go_big_quiet_step (first | (go_at_call 15; refine Up.call (H15.out _ (hB.up _))) | (go_at_call 16; refine Up.call (H16.out _ (hB.up _))) | (go_at_call 17; refine Up.call (H17.out _ (hB.up _))) | (go_at_call 18; refine Up.call (H18.out _ (hB.up _))) | (go_at_call 19; refine Up.call (H19.out _ (hB.up _))) | (go_at_call 20; refine Up.call (H20.out _ (hB.up _))) | (go_at_call 21; refine Up.call (H21.out _ (hB.up _)))))
        refine wpQuiet_nil ?_
        intro w17 hw'
        obtain ⟨⟨_, hbw⟩, rfl⟩ := hw'
        have hB7 := hB.grow hbw
        clear c0 k0 hne H15 H16 H17 H18 H19 H20 H21 hB hbw
        go_wp2_with fail
        exact ⟨⟨j + 1, by omega, by go_num, by rw [HD.out]; exact hB7⟩, by simp [intOf]; omega⟩
      | false =>
        have H13 : Hid (Calls Try.prog 13 #[.pointer (some ⟨t, 0, none⟩), .int .i64 F] wr fun e w' => e = .returned (.tuple #[.int .i64 (addN G F), .int .i64 (addE G F)]) ∧ Mi w w' t r G (addG G F)) := addP F hT
        have H14 : Hid (∀ W, Mi w W t r G (addG G F) → Calls Try.prog 14 #[.pointer (some ⟨r, 0, none⟩), .int .i64 F] W fun e w' => e = .returned (.tuple #[.int .i64 (addN G F), .int .i64 (addE G F)]) ∧ Bo w w' t r (addG G F)) := fun W h => addQ F h
        obtain ⟨E, hE⟩ : ∃ E, E = addE G F := ⟨_, rfl⟩
        obtain ⟨N, hN⟩ : ∃ N, N = addN G F := ⟨_, rfl⟩
        obtain ⟨G1, hG1⟩ : ∃ G1, G1 = addG G F := ⟨_, rfl⟩
        rw [← hE, ← hN, ← hG1] at H13 H14
        have HD : Hid (doN l (j + 1) = G1) := by show _ = _; rw [hD2, hG1]; rfl
        have z0 : (E != E) = false := by simp
        have z5 : (N != N) = false := by simp
        clear hT hD2 hE hG1 hN
        go_wp2_with fail
        refine H13.out.mono ?_
        rintro e w3 ⟨rfl, hM⟩
        have e5 := HC.out w3 hM.bel
        clear e0 e1
        go_wp2_with fail
        refine (H14.out _ hM).mono ?_
        rintro e w4 ⟨rfl, hB⟩
        clear hM e5 H13 H14 HC
        have H15 : Hid (∀ W, Bo w W t r G1 → Calls Try.prog 15 #[.pointer (some ⟨t, 0, none⟩)] W fun e w' => e = .returned (.int .i64 G1.length) ∧ Below W.heap.size W w') := fun W h => (plen _ t G1 W h.p).mono fun _ _ ⟨h1, h2⟩ => ⟨h1, by rw [h2]; exact Below.refl _ _⟩
        have H16 : Hid (∀ W, Bo w W t r G1 → Calls Try.prog 16 #[.pointer (some ⟨t, 0, none⟩), .int .i64 g] W fun e w' => e = .returned (.bool (lv G1 g)) ∧ Below W.heap.size W w') := fun W h => (plive _ t G1 g W h.p).mono fun _ _ ⟨h1, h2⟩ => ⟨h1, by rw [h2]; exact Below.refl _ _⟩
        have H17 : Hid (∀ W, Bo w W t r G1 → Calls Try.prog 17 #[.pointer (some ⟨r, 0, none⟩), .int .i64 g] W fun e w' => e = .returned (.bool (lv G1 g)) ∧ Below W.heap.size W w') := fun W h => (rlive _ r G1 g W h.q).mono fun _ _ ⟨h1, h2⟩ => ⟨h1, by rw [h2]; exact Below.refl _ _⟩
        have H18 : Hid (∀ W, Bo w W t r G1 → Calls Try.prog 18 #[.pointer (some ⟨t, 0, none⟩), .int .i64 g] W fun e w' => e = .returned (.int .i64 (par G1 g)) ∧ Below W.heap.size W w') := fun W h => (ppar _ t G1 g W h.p).mono fun _ _ ⟨h1, h2⟩ => ⟨h1, by rw [h2]; exact Below.refl _ _⟩
        have H19 : Hid (∀ W, Bo w W t r G1 → Calls Try.prog 19 #[.pointer (some ⟨r, 0, none⟩), .int .i64 g] W fun e w' => e = .returned (.int .i64 (par G1 g)) ∧ Below W.heap.size W w') := fun W h => (rpar _ r G1 g W h.q).mono fun _ _ ⟨h1, h2⟩ => ⟨h1, by rw [h2]; exact Below.refl _ _⟩
        have H20 : Hid (∀ W, Bo w W t r G1 → Calls Try.prog 20 #[.pointer (some ⟨t, 0, none⟩), .int .i64 g] W fun e w' => e = .returned (.int .i64 (dep G1 g)) ∧ Below W.heap.size W w') := fun W h => pdepth _ t G1 g W h.p
        have H21 : Hid (∀ W, Bo w W t r G1 → Calls Try.prog 21 #[.pointer (some ⟨r, 0, none⟩), .int .i64 g] W fun e w' => e = .returned (.int .i64 (dep G1 g)) ∧ Below W.heap.size W w') := fun W h => rdepth _ r G1 g W h.q
        obtain ⟨gu, cu, gh, ch, U, -, c0, -, -, -, -⟩ := hB.q.open
        obtain ⟨n, hn⟩ : ∃ n : Nat, n = G1.length := ⟨_, rfl⟩
        obtain ⟨vl, hvl⟩ : ∃ v, v = lv G1 g := ⟨_, rfl⟩
        obtain ⟨vp, hvp⟩ : ∃ v, v = par G1 g := ⟨_, rfl⟩
        obtain ⟨vd, hvd⟩ : ∃ v, v = dep G1 g := ⟨_, rfl⟩
        rw [← hn] at H15 c0
        rw [← hvl] at H16 H17
        rw [← hvp] at H18 H19
        rw [← hvd] at H20 H21
        clear hn hvl hvp hvd
        have z1 : ((n : Int) != (n : Int)) = false := by simp
        have z2 : (vl != vl) = false := by simp
        have z3 : (vp != vp) = false := by simp
        have z4 : (vd != vd) = false := by simp
        have k0 := Up.cell c0
        have hne := Up.any w4
        go_wp2_with fail
        refine wp_region_up (by kernel_rfl) (by kernel_rfl) ?_
        repeat (go_big_quiet_step (first | (go_at_call 15; refine Up.call (H15.out _ (hB.up _))) | (go_at_call 16; refine Up.call (H16.out _ (hB.up _))) | (go_at_call 17; refine Up.call (H17.out _ (hB.up _))) | (go_at_call 18; refine Up.call (H18.out _ (hB.up _))) | (go_at_call 19; refine Up.call (H19.out _ (hB.up _))) | (go_at_call 20; refine Up.call (H20.out _ (hB.up _))) | (go_at_call 21; refine Up.call (H21.out _ (hB.up _)))))
        refine wpQuiet_nil ?_
        intro w17 hw'
        obtain ⟨⟨_, hbw⟩, rfl⟩ := hw'
        have hB7 := hB.grow hbw
        clear c0 k0 hne H15 H16 H17 H18 H19 H20 H21 hB hbw
        go_wp2_with fail
        exact ⟨⟨j + 1, by omega, by go_num, by rw [HD.out]; exact hB7⟩, by simp [intOf]; omega⟩
    · obtain rfl : j = l.length := by omega
      have d0 : decide ((l.length : Int) < (l.length : Int)) = false := by simp
      obtain ⟨G, hG⟩ : ∃ G, G = doN l l.length := ⟨_, rfl⟩
      rw [← hG] at hT
      clear hG hlt hc
      have hle := hT.p.ok.le
      have l1 : Hid ((chain G g).length ≤ 1000000) := Nat.le_trans (chain_len hT.p.ok g) (by omega)
      have l2 : Hid (∀ x, (bel G x).length ≤ 1000000) := fun x => Nat.le_trans (bel_len G x) (by omega)
      have l3 : Hid (∀ x, (kids G x).length ≤ 1000000) := fun x => Nat.le_trans (kids_len G x) (by omega)
      have P1 : Hid (∀ W, Bo w W t r G → Calls Try.prog 23 #[.pointer (some ⟨t, 0, none⟩), .int .i64 g] W fun e w' => ∃ a cap, e = .returned (.slice a (chain G g).length cap) ∧ Ints w' a (chain G g) ∧ Bo w w' t r G ∧ Below W.heap.size W w') := fun W h => chainB g h
      have Q1 : Hid (∀ W, Bo w W t r G → Calls Try.prog 24 #[.pointer (some ⟨r, 0, none⟩), .int .i64 g] W fun e w' => ∃ a cap, e = .returned (.slice a (chain G g).length cap) ∧ Ints w' a (chain G g) ∧ Bo w w' t r G ∧ Below W.heap.size W w') := fun W h => chainR g h
      have P2 : Hid (∀ x W, Bo w W t r G → Calls Try.prog 25 #[.pointer (some ⟨t, 0, none⟩), .int .i64 x] W fun e w' => ∃ a cap, e = .returned (.slice a (bel G x).length cap) ∧ Ints w' a (bel G x) ∧ Bo w w' t r G ∧ Below W.heap.size W w') := fun x W h => belB x h
      have Q2 : Hid (∀ x W, Bo w W t r G → Calls Try.prog 26 #[.pointer (some ⟨r, 0, none⟩), .int .i64 x] W fun e w' => ∃ a cap, e = .returned (.slice a (bel G x).length cap) ∧ Ints w' a (bel G x) ∧ Bo w w' t r G ∧ Below W.heap.size W w') := fun x W h => belR x h
      have P3 : Hid (∀ x W, Bo w W t r G → Calls Try.prog 27 #[.pointer (some ⟨t, 0, none⟩), .int .i64 x] W fun e w' => ∃ a cap, e = .returned (.slice a (kids G x).length cap) ∧ Ints w' a (kids G x) ∧ Bo w w' t r G ∧ Below W.heap.size W w') := fun x W h => kidsB x h
      have Q3 : Hid (∀ x W, Bo w W t r G → Calls Try.prog 28 #[.pointer (some ⟨r, 0, none⟩), .int .i64 x] W fun e w' => ∃ a cap, e = .returned (.slice a (kids G x).length cap) ∧ Ints w' a (kids G x) ∧ Bo w w' t r G ∧ Below W.heap.size W w') := fun x W h => kidsR x h
      clear hle
      go_wp2_with fail
      refine (P1.out  _ hT).mono ?_
      rintro e w5 ⟨a5, c5, rfl, i5, h5, -⟩
      clear hT
      go_wp2_with fail
      refine (Q1.out  _ h5).mono ?_
      rintro e w6 ⟨a6, c6, rfl, i6, h6, b6⟩
      have i56 := i5.later b6
      clear h5 i5 b6
      go_wp2_with fail
      refine (sameB h6 l1.out i56 i6).mono ?_
      rintro e w7 ⟨rfl, hT⟩
      clear h6 i56 i6
      go_wp2_with fail
      refine (P2.out g _ hT).mono ?_
      rintro e w5 ⟨a5, c5, rfl, i5, h5, -⟩
      clear hT
      go_wp2_with fail
      refine (Q2.out g _ h5).mono ?_
      rintro e w6 ⟨a6, c6, rfl, i6, h6, b6⟩
      have i56 := i5.later b6
      clear h5 i5 b6
      go_wp2_with fail
      refine (sameB h6 (l2.out g) i56 i6).mono ?_
      rintro e w7 ⟨rfl, hT⟩
      clear h6 i56 i6
      go_wp2_with fail
      refine (P3.out g _ hT).mono ?_
      rintro e w5 ⟨a5, c5, rfl, i5, h5, -⟩
      clear hT
      go_wp2_with fail
      refine (Q3.out g _ h5).mono ?_
      rintro e w6 ⟨a6, c6, rfl, i6, h6, b6⟩
      have i56 := i5.later b6
      clear h5 i5 b6
      go_wp2_with fail
      refine (sameB h6 (l3.out g) i56 i6).mono ?_
      rintro e w7 ⟨rfl, hT⟩
      clear h6 i56 i6
      go_wp2_with fail
      refine (P2.out 0 _ hT).mono ?_
      rintro e w5 ⟨a5, c5, rfl, i5, h5, -⟩
      clear hT
      go_wp2_with fail
      refine (Q2.out 0 _ h5).mono ?_
      rintro e w6 ⟨a6, c6, rfl, i6, h6, b6⟩
      have i56 := i5.later b6
      clear h5 i5 b6
      go_wp2_with fail
      refine (sameB h6 (l2.out 0) i56 i6).mono ?_
      rintro e w7 ⟨rfl, hT⟩
      clear h6 i56 i6
      go_wp2_with fail
      refine (P3.out 0 _ hT).mono ?_
      rintro e w5 ⟨a5, c5, rfl, i5, h5, -⟩
      clear hT
      go_wp2_with fail
      refine (Q3.out 0 _ h5).mono ?_
      rintro e w6 ⟨a6, c6, rfl, i6, h6, b6⟩
      have i56 := i5.later b6
      clear h5 i5 b6
      go_wp2_with fail
      refine (sameB h6 (l3.out 0) i56 i6).mono ?_
      rintro e w7 ⟨rfl, hT⟩
      clear h6 i56 i6
      go_wp2_with fail
      go_ret
      exact ⟨rfl, hT.bel⟩
theorem does_walk (a : Option Addr) (cap : Nat) (l : List Ac) (g : Int) (w : World) (hc : ActsAt w a l) : Calls Try.prog 3 #[.slice a l.length cap, .int .i64 g] w fun e w' => e = .returned (.bool true) ∧ Below w.heap.size w w' := by
  by_cases h : 100 < l.length
  · exact does_out a cap _ g w h
  · exact does_in a cap l g w (by omega) hc
end Go.Proofs.Ytbceadnhfihlfaa
