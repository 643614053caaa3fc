/-
  The document's Below and Kids.
-/
import Derived.Test.YtbceadnhfihlfaaR2
namespace Go.Proofs.Ytbceadnhfihlfaa
open Go.RowKit

set_option maxHeartbeats 2000000 in
theorem rbelow (B t : Nat) (G : Gr) (g : Int) (w : World) (h : RefIs B w t G) :
    Calls Try.prog 26 #[.pointer (some ⟨t, 0, none⟩), .int .i64 g] w fun e w' => ∃ v, e = .returned v ∧ w'.ownsRow w.heap.size 3 1 v (bel G g).length ((bel G g).map iv) ∧ Below w.heap.size w w' := by
  have HL : Hid (∀ w, RefIs B w t G → Calls Try.prog 17 #[.pointer (some ⟨t, 0, none⟩), .int .i64 g] w fun e w' => e = .returned (.bool (lv G g)) ∧ w' = w) := fun w h => rlive B t G g w h
  have HC : Hid (∀ x w, RefIs B w t G → Calls Try.prog 24 #[.pointer (some ⟨t, 0, none⟩), .int .i64 x] w fun e w' => ∃ v, e = .returned v ∧ w'.ownsRow w.heap.size 3 1 v (chain G x).length ((chain G x).map iv) ∧ Below w.heap.size w w') := fun x w h => rchain B t G x w h
  have hok := h.ok
  have hle := hok.le
  obtain ⟨gu, cu, gh, ch, U, -, hc0, -, -, -, -⟩ := h.open
  cases hl : lv G g with
  | false =>
    have HP : Hid (bel G g = []) := bel_dead hok hl
    rw [hl] at HL
    have hd : decide (0 < G.length) = true := by have := hok.ne; simp; omega
    have hd2 : 0 < G.length := hok.ne
    clear hl HC
    go_enter Try.func26, Try.ntmps26
    go_wp2_with fail
    go_loopw [5, 6] (fun s5 s6 wr => s5 = .slice none 0 0 ∧ s6 = .int .i64 0 ∧ wr = w) (fun _ _ _ => 0)
    case atStart => exact ⟨rfl, rfl, rfl⟩
    case round =>
      obtain ⟨rfl, rfl, rfl⟩ := hrel
      go_wp2_with fail
      refine (HL.out _ h).mono ?_
      rintro e w1 ⟨rfl, rfl⟩
      go_wp2_with fail
      go_ret
      exact ⟨_, rfl, by rw [HP.out]; exact World.ownsRow_nil _ _ _ _, Below.refl _ _⟩
  | true =>
    rw [hl] at HL
    go_enter Try.func26, Try.ntmps26
    go_wp2_with fail
    go_loopw [5, 6] (fun s5 s6 wr => ∃ j : Nat, j ≤ G.length ∧ s6 = .int .i64 j ∧ wr.ownsRow w.heap.size 3 1 s5 (thJ G (has G g) j).length ((thJ G (has G g) j).map iv) ∧ Below w.heap.size w wr) (fun _ s6 _ => G.length - (intOf s6).toNat)
    case atStart => exact ⟨0, by omega, rfl, World.ownsRow_nil _ _ _ _, Below.refl _ _⟩
    case round =>
      obtain ⟨j, hj, rfl, hrow, hb⟩ := hrel
      have hr := h.below hb
      have k0 := cell_later hb hc0
      have hlen := thJ_len G (has G g) j
      by_cases hjl : j < G.length
      · have hd : decide ((j : Int) < (G.length : Int)) = true := by simp; omega
        have hcl : (chain G (j : Int)).length ≤ 1000000 := Nat.le_trans (chain_len hok j) (by omega)
        have HC1 : Hid (Calls Try.prog 24 #[.pointer (some ⟨t, 0, none⟩), .int .i64 j] wr fun e w' => ∃ v, e = .returned v ∧ w'.ownsRow wr.heap.size 3 1 v (chain G j).length ((chain G j).map iv) ∧ Below wr.heap.size wr w') := HC.out j wr hr
        have HL1 : Hid (Calls Try.prog 17 #[.pointer (some ⟨t, 0, none⟩), .int .i64 g] wr fun e w' => e = .returned (.bool true) ∧ w' = wr) := HL.out wr hr
        by_cases hq : has G g j = true
        · have hlj : lv G j = true := by simp [has] at hq; exact chain_src hq
          have HJ : Hid (thJ G (has G g) (j + 1) = thJ G (has G g) j ++ [(j : Int)]) := thJ_yes hlj hq
          have HI : Hid (decide (g ∈ chain G j) = true) := hq
          clear HL HC hl hq hlj h hr
          go_wp2_with fail
          refine HL1.out.mono ?_
          rintro e w1 ⟨rfl, rfl⟩
          go_wp2_with fail
          refine HC1.out.mono ?_
          rintro e w2 ⟨v, rfl, hv, hb2⟩
          obtain ⟨a, cap, rfl, hI⟩ := ints_own hv
          go_wp2_with fail
          refine (rin a cap _ g w2 hI hcl).mono ?_
          rintro e w3 ⟨rfl, rfl⟩
          rw [HI.out]
          have hrow3 := own_below hrow hb2
          have hB3 := bel_trans hb hb2 (Nat.le_refl _)
          clear hv hI hrow hb hb2 HC1 HL1 HI
          go_wp2_with (at_builtin; refine app_int w _ rfl _ _ rfl _ _ rfl hrow3 _ rfl (by omega) hB3 ?_; intro v' w5 hown' hb5)
          exact ⟨⟨j + 1, by omega, by go_num, by rw [HJ.out]; exact hown', hb5⟩, by simp [intOf]; omega⟩
        · have hq' : has G g j = false := by simpa using hq
          have HJ : Hid (thJ G (has G g) (j + 1) = thJ G (has G g) j) := thJ_no (by rw [hq']; simp)
          have HI : Hid (decide (g ∈ chain G j) = false) := hq'
          clear HL HC hl hq hq' h hr
          go_wp2_with fail
          refine HL1.out.mono ?_
          rintro e w1 ⟨rfl, rfl⟩
          go_wp2_with fail
          refine HC1.out.mono ?_
          rintro e w2 ⟨v, rfl, hv, hb2⟩
          obtain ⟨a, cap, rfl, hI⟩ := ints_own hv
          go_wp2_with fail
          refine (rin a cap _ g w2 hI hcl).mono ?_
          rintro e w3 ⟨rfl, rfl⟩
          rw [HI.out]
          go_wp2_with fail
          exact ⟨⟨j + 1, by omega, by go_num, by rw [HJ.out]; exact own_below hrow hb2, bel_trans hb hb2 (Nat.le_refl _)⟩, by simp [intOf]; omega⟩
      · obtain rfl : j = G.length := by omega
        rw [thJ_all] at hrow
        have hd : decide ((G.length : Int) < (G.length : Int)) = false := by simp
        clear h hr HL HC
        go_wp2_with fail
        go_ret
        exact ⟨_, rfl, hrow, hb⟩

set_option maxHeartbeats 2000000 in
theorem rkids (B t : Nat) (G : Gr) (g : Int) (w : World) (h : RefIs B w t G) :
    Calls Try.prog 28 #[.pointer (some ⟨t, 0, none⟩), .int .i64 g] w fun e w' => ∃ v, e = .returned v ∧ w'.ownsRow w.heap.size 3 1 v (kids G g).length ((kids G g).map iv) ∧ Below w.heap.size w w' := by
  have HL : Hid (∀ w, RefIs B w t G → Calls Try.prog 17 #[.pointer (some ⟨t, 0, none⟩), .int .i64 g] w fun e w' => e = .returned (.bool (lv G g)) ∧ w' = w) := fun w h => rlive B t G g w h
  have hok := h.ok
  have hle := hok.le
  have hne := hok.ne
  obtain ⟨gu, cu, gh, ch, U, hlu, hc0, hc1, hh, hu, hsame⟩ := h.open
  cases hl : lv G g with
  | false =>
    have HP : Hid (kids G g = []) := kids_dead hok hl
    rw [hl] at HL
    clear hl hh hu hsame
    go_enter Try.func28, Try.ntmps28
    go_wp2_with fail
    go_loopw [5, 6] (fun s5 s6 wr => s5 = .slice none 0 0 ∧ s6 = .int .i64 1 ∧ wr = w) (fun _ _ _ => 0)
    case atStart => exact ⟨rfl, rfl, rfl⟩
    case round =>
      obtain ⟨rfl, rfl, rfl⟩ := hrel
      by_cases h1 : 1 < G.length
      · have hd : decide (1 < (G.length : Int)) = true := by simp; omega
        go_wp2_with fail
        refine (HL.out _ h).mono ?_
        rintro e w1 ⟨rfl, rfl⟩
        go_wp2_with fail
        go_ret
        exact ⟨_, rfl, by rw [HP.out]; exact World.ownsRow_nil _ _ _ _, Below.refl _ _⟩
      · have hd : decide (1 < (G.length : Int)) = false := by simp; omega
        go_wp2_with fail
        go_ret
        exact ⟨_, rfl, by rw [HP.out]; exact World.ownsRow_nil _ _ _ _, Below.refl _ _⟩
  | true =>
    rw [hl] at HL
    have hstart : thJ G (kid G g) 1 = [] := by
      rw [thJ_no (j := 0) (by simp [kid])]
      rfl
    go_enter Try.func28, Try.ntmps28
    go_wp2_with fail
    go_loopw [5, 6] (fun s5 s6 wr => ∃ j : Nat, 1 ≤ j ∧ j ≤ G.length ∧ s6 = .int .i64 j ∧ wr.ownsRow w.heap.size 3 1 s5 (thJ G (kid G g) j).length ((thJ G (kid G g) j).map iv) ∧ Below w.heap.size w wr) (fun _ s6 _ => G.length - (intOf s6).toNat)
    case atStart => exact ⟨1, by omega, by omega, rfl, by rw [hstart]; exact World.ownsRow_nil _ _ _ _, Below.refl _ _⟩
    case round =>
      clear hstart
      obtain ⟨j, hj1, hj, rfl, hrow, hb⟩ := hrel
      have hr := h.below hb
      have k0 := cell_later hb hc0
      have k1 := cell_later hb hc1
      have hlen := thJ_len G (kid G g) j
      by_cases hjl : j < G.length
      · have hd : decide ((j : Int) < (G.length : Int)) = true := by simp; omega
        have HL1 : Hid (Calls Try.prog 17 #[.pointer (some ⟨t, 0, none⟩), .int .i64 g] wr fun e w' => e = .returned (.bool true) ∧ w' = wr) := HL.out wr hr
        have hju : j < U.length := by omega
        have k2 := cell_later hb (hh j hjl)
        have k3 := cell_later hb (hu j hju)
        have hlv := lv_nat hjl
        have hsm := hsame j hjl hju
        obtain ⟨b, hbq⟩ : ∃ b, b = G[j].2 := ⟨_, rfl⟩
        obtain ⟨q, hq⟩ : ∃ q, q = U[j] := ⟨_, rfl⟩
        rw [← hbq] at k2 hlv hsm
        rw [← hq] at k3 hsm
        have hj0 : (j : Int) ≠ 0 := by omega
        cases b with
        | false =>
          have HJ : Hid (thJ G (kid G g) (j + 1) = thJ G (kid G g) j) := thJ_no (by rw [hlv]; rfl)
          clear HL hl h hr hh hu hsame hc0 hc1 hsm hbq hq
          go_wp2_with fail
          refine HL1.out.mono ?_
          rintro e w1 ⟨rfl, rfl⟩
          go_wp2_with fail
          exact ⟨⟨j + 1, by omega, by omega, by go_num, by rw [HJ.out]; exact hrow, hb⟩, by simp [intOf]; omega⟩
        | true =>
          have hpq : par G j = q := by rw [par_live hlv, pr_nat hjl, hsm rfl]
          by_cases hqg : q = g
          · have q1 : (q == g) = true := by simpa using hqg
            have HJ : Hid (thJ G (kid G g) (j + 1) = thJ G (kid G g) j ++ [(j : Int)]) := thJ_yes hlv (by simp [kid, hpq, hqg]; omega)
            clear HL hl h hr hh hu hsame hc0 hc1 hsm hbq hq hpq hqg
            go_wp2_with fail
            refine HL1.out.mono ?_
            rintro e w1 ⟨rfl, rfl⟩
            go_wp2_with (at_builtin; refine app_int w _ rfl _ _ rfl _ _ rfl hrow _ rfl (by omega) hb ?_; intro v' w5 hown' hb5)
            exact ⟨⟨j + 1, by omega, by omega, by go_num, by rw [HJ.out]; exact hown', hb5⟩, by simp [intOf]; omega⟩
          · have q1 : (q == g) = false := by simpa using hqg
            have HJ : Hid (thJ G (kid G g) (j + 1) = thJ G (kid G g) j) := thJ_no (by simp [kid, hpq, hqg])
            clear HL hl h hr hh hu hsame hc0 hc1 hsm hbq hq hpq hqg
            go_wp2_with fail
            refine HL1.out.mono ?_
            rintro e w1 ⟨rfl, rfl⟩
            go_wp2_with fail
            exact ⟨⟨j + 1, by omega, by omega, by go_num, by rw [HJ.out]; exact hrow, hb⟩, by simp [intOf]; omega⟩
      · obtain rfl : j = G.length := by omega
        rw [thJ_all] at hrow
        have hd : decide ((G.length : Int) < (G.length : Int)) = false := by simp
        clear h hr HL hh hu hsame
        go_wp2_with fail
        go_ret
        exact ⟨_, rfl, hrow, hb⟩
end Go.Proofs.Ytbceadnhfihlfaa
