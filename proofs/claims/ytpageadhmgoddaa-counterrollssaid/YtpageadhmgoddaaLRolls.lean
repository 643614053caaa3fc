/-
  The law CounterRolls walked.
-/
import Derived.Test.YtpageadhmgoddaaActs
namespace Go.Proofs.Ytpageadhmgoddaa
open Go.RowKit

theorem Ct.drewN {w0 w : World} {N c : Nat} {S : Cs} (h : Ct w0 N w c S) (n : Nat) : Ct w0 N (w.drewN n) c S := ⟨⟨h.is.row.drewN n, h.is.lo, h.is.ok⟩, below_drawn h.bel n⟩
theorem Ct.ty {C : TypeId → Bool} {w0 w w' : World} {N c : Nat} {S : Cs} (h : Ct w0 N w c S) (hb : Below w0.heap.size w w') (ht : Ty C w w') (h1 : C 49 = false) : Ct w0 N w' c S := ⟨h.is.ty ht h1, h.bel.trans hb⟩

/-- A Try that fails changes nothing that is used. -/
theorem rolls_fail {S : Cs} (L : List Int) (n : Int) (hE : tryE S L n ≠ 0) : (∀ g, (tryC S L n).u g = S.u g) ∧
    (tryE S L n = 1 ∨ tryE S L n = 22 ∧ 0 ≤ tryN S L n ∧ tryN S L n < 64 ∧ 0 ≤ n ∧ n ≤ 1099511627776 ∧ (tryC S L n).l (tryN S L n) < S.u (tryN S L n) + n) := by
  cases hk : okC L n with
  | false =>
    obtain ⟨e1, -, e3⟩ := try_bad (S := S) hk
    rw [e1]
    exact ⟨fun _ => rfl, Or.inl e3⟩
  | true =>
    cases hf : L.find? (over S n) with
    | none => exact absurd (try_ok hk hf).2.2 hE
    | some x =>
      obtain ⟨e1, e2, e3⟩ := try_fail hk hf
      rw [e1, e2, e3]
      obtain ⟨h1, h2, -⟩ := okC_parts hk
      obtain ⟨f1, f2⟩ := find_some hf
      have hx := h2 x f1
      simp only [over, Bool.and_eq_true, decide_eq_true_eq] at f2
      exact ⟨fun _ => rfl, Or.inr ⟨rfl, hx.1, hx.2, h1.1, h1.2, f2.2⟩⟩
/-- One that does not changes what the chain uses, by so much; given back it is as ahead. -/
theorem rolls_ok {N : Nat} {S : Cs} (L : List Int) (n : Int) (h : OkC N S) (hE : tryE S L n = 0) : tryN S L n = -1 ∧ (∀ g, (tryC S L n).u g = if g ∈ L then S.u g + n else S.u g) ∧ 0 ≤ n ∧
    giveE (tryC S L n) L n = 0 ∧ ∀ g, (giveC (tryC S L n) L n).u g = S.u g := by
  cases hk : okC L n with
  | false => rw [(try_bad (S := S) hk).2.2] at hE; cases hE
  | true =>
    cases hf : L.find? (over S n) with
    | some x => rw [(try_fail hk hf).2.2] at hE; cases hE
    | none =>
      obtain ⟨e1, e2, e3⟩ := try_ok hk hf
      rw [e1, e2]
      have hn := (okC_parts hk).1
      have hg : L.find? (lack (growC S L n) n) = none := by
        refine find_end fun j hj => ?_
        have := h.u L[j]
        simp only [lack, growC, List.getElem_mem hj, if_true, decide_eq_false_iff_not]
        omega
      obtain ⟨e4, e5⟩ := give_ok hk hg
      rw [e4, e5]
      refine ⟨rfl, fun _ => rfl, hn.1, rfl, fun g => ?_⟩
      simp only [shrC, growC]
      split <;> omega

set_option maxRecDepth 100000 in
theorem rolls_out (a : Option Addr) (cap : Nat) (l : List Ac) (q : Option Addr) (cap' : Nat) (L : List Int) (n ot : Int) (w : World) (hc : ActsAt w a l) (h : ov l = true ∨ ov l = false ∧ 80 < L.length) :
    Calls Try.prog 4 #[.slice a l.length cap, .slice q L.length cap', .int .i64 n, .int .i64 ot] w fun e w' => e = .returned (.bool true) ∧ Below w.heap.size w w' := by
  have HO : Hid (∀ W, Below w.heap.size w W → Calls Try.prog 10 #[.slice a l.length cap] W fun e w' => e = .returned (.bool (ov l)) ∧ w' = W) := fun W h => over_any a cap l W (hc.below h)
  clear hc
  rcases h with h | ⟨h, h2⟩
  · rw [h] at HO
    clear h
    go_enter Try.func4, Try.ntmps4
    go_wp2_with fail
    refine (works_any _).mono ?_
    rintro e w1 ⟨rfl, hb⟩
    go_wp2_with fail
    refine (HO.out _ hb).mono ?_
    rintro e w2 ⟨rfl, rfl⟩
    go_wp2_with fail
    go_ret
    exact ⟨rfl, hb⟩
  · rw [h] at HO
    have d0 : decide ((80 : Int) < (L.length : Int)) = true := by simp; omega
    clear h h2
    go_enter Try.func4, Try.ntmps4
    go_wp2_with fail
    refine (works_any _).mono ?_
    rintro e w1 ⟨rfl, hb⟩
    go_wp2_with fail
    refine (HO.out _ hb).mono ?_
    rintro e w2 ⟨rfl, rfl⟩
    go_wp2_with fail
    go_ret
    exact ⟨rfl, hb⟩

set_option maxRecDepth 100000 in
set_option maxHeartbeats 8000000 in
theorem rolls_in (a : Option Addr) (cap : Nat) (l : List Ac) (q : Option Addr) (cap' : Nat) (L : List Int) (n ot : Int) (w : World) (hc : ActsAt w a l) (hI : Ints w q L) (hov : ov l = false) (hL : L.length ≤ 80) :
    Calls Try.prog 4 #[.slice a l.length cap, .slice q L.length cap', .int .i64 n, .int .i64 ot] w fun e w' => e = .returned (.bool true) ∧ Below w.heap.size w w' := by
  have HO : Hid (∀ W, Below w.heap.size w W → Calls Try.prog 10 #[.slice a l.length cap] W fun e w' => e = .returned (.bool false) ∧ w' = W) := fun W h => by
    have := over_any a cap l W (hc.below h)
    rw [hov] at this
    exact this
  have hl := (ov_no hov).1
  have HS : Hid (∀ i (hi : i < l.length), l[i].l.length ≤ 80) := (ov_no hov).2
  have HC : Hid (ActsAt w a l) := hc
  have HI : Hid (Ints w q L) := hI
  have d0 : decide ((80 : Int) < (L.length : Int)) = false := by simp; omega
  clear hc hI hov
  go_enter Try.func4, Try.ntmps4
  go_wp2_with fail
  refine (works_any _).mono ?_
  rintro e w1 ⟨rfl, hb⟩
  go_wp2_with fail
  refine (HO.out _ hb).mono ?_
  rintro e w2 ⟨rfl, rfl⟩
  go_wp2_with fail
  refine (newT hb).mono ?_
  rintro e w3 ⟨c, rfl, h3, -⟩
  clear hb
  go_wp2_with fail
  go_loopw [11] (fun s11 wr => ∃ (i : Nat) (S : Cs), i ≤ l.length ∧ s11 = .int .i64 i ∧ Ct w i wr c S) (fun s11 _ => l.length - (intOf s11).toNat)
  case atStart => exact ⟨0, _, by omega, rfl, h3⟩
  case round =>
    clear h3
    obtain ⟨i, S, hi, rfl, h5⟩ := hrel
    by_cases hlt : i < l.length
    -- ACTS
    · have hil : decide ((i : Int) < (l.length : Int)) = true := by simp; omega
      obtain ⟨b, off, rfl, hcell⟩ := HC.out.told hlt
      have hIn := HC.out.ints hlt
      have hS := HS.out i hlt
      obtain ⟨k0, k1, k2, k3⟩ := hcell wr h5.bel
      obtain ⟨K, hK⟩ : ∃ K, K = l[i].k := ⟨_, rfl⟩
      obtain ⟨A, hA⟩ : ∃ A, A = l[i].a := ⟨_, rfl⟩
      obtain ⟨M, hM⟩ : ∃ M, M = l[i].l := ⟨_, rfl⟩
      obtain ⟨C, hC⟩ : ∃ C, C = l[i].cap := ⟨_, rfl⟩
      obtain ⟨G, hG⟩ : ∃ C, C = l[i].g := ⟨_, rfl⟩
      obtain ⟨X, hX⟩ : ∃ C, C = l[i].n := ⟨_, rfl⟩
      simp only [← hK, ← hA, ← hM, ← hC, ← hG, ← hX] at hcell k0 k1 k2 k3 hIn hS
      have HCELL : Hid (∀ W, Below w.heap.size w W → W.cell? ⟨b, off + i * 4, none⟩ = some (.int .i64 K) ∧ W.cell? ⟨b, off + i * 4 + 1, none⟩ = some (.slice A M.length C) ∧ W.cell? ⟨b, off + i * 4 + 2, none⟩ = some (.int .i64 G) ∧ W.cell? ⟨b, off + i * 4 + 3, none⟩ = some (.int .i64 X)) := hcell
      have HIN : Hid (∀ W, Below w.heap.size w W → Stay w.heap.size W A M) := fun W h => Stay.came hIn h
      clear hcell hIn hK hA hM hC hG hX
      clear HI HC HS HO
      by_cases q0 : K.tmod 3 = 0
      · have z0 : (K.tmod 3 == 0) = true := by simpa using q0
        have z2 : (K.tmod 3 == 2) = false := by rw [q0]; rfl
        have H1 : Hid (∀ m, Calls Try.prog 13 #[.pointer (some ⟨c, 0, none⟩), .slice A M.length C, .int .i64 X] (wr.drewN m) fun e w' => e = .returned (.tuple #[.int .i64 (tryN S M X), .int .i64 (tryE S M X)]) ∧ Ct w (i + 1) w' c (tryC S M X)) := fun m => (tryT X (h5.drewN m) (HIN.out _ (h5.drewN m).bel) (by omega) (by omega)).mono fun _ _ ⟨g1, g2, _⟩ => ⟨g1, g2⟩
        clear hS HIN h5 q0
        go_upto_region 11 with fail
        go_region_with (go_at_call 13; refine (H1.out 1).mono ?_; rintro e w5 ⟨rfl, h6⟩)
        all_goals
          clear k0 k1 k2 k3 H1
          obtain ⟨k0, -, -, -⟩ := HCELL.out _ h6.bel
          go_wp2_with fail
          exact ⟨⟨i + 1, _, by omega, by go_num, h6⟩, by simp [intOf]; omega⟩
      · have z0 : (K.tmod 3 == 0) = false := by simpa using q0
        by_cases q2 : K.tmod 3 = 2
        · have z2 : (K.tmod 3 == 2) = true := by simpa using q2
          have H1 : Hid (∀ m, Calls Try.prog 17 #[.pointer (some ⟨c, 0, none⟩), .int .i64 G, .int .i64 X] (wr.drewN m) fun e w' => e = .returned (.int .i64 (setE G X)) ∧ Ct w (i + 1) w' c (setC S G X)) := fun m => (setT G X (h5.drewN m)).mono fun _ _ ⟨g1, g2, _⟩ => ⟨g1, g2.more (by omega)⟩
          clear hS HIN h5 q0 q2
          go_wp2_with fail
          go_region_with (go_at_call 17; refine (H1.out 1).mono ?_; rintro e w5 ⟨rfl, h6⟩)
          all_goals
            clear k0 k1 k2 k3 H1 HCELL
            go_wp2_with fail
            exact ⟨⟨i + 1, _, by omega, by go_num, h6⟩, by simp [intOf]; omega⟩
        · have z2 : (K.tmod 3 == 2) = false := by simpa using q2
          clear hS HIN q0 q2 HCELL
          go_wp2_with fail
          exact ⟨⟨i + 1, S, by omega, by go_num, h5.more (by omega)⟩, by simp [intOf]; omega⟩
    -- REST
    · obtain rfl : i = l.length := by omega
      have hil : decide ((l.length : Int) < (l.length : Int)) = false := by simp
      clear HC HS HO
      go_wp2_with fail
      go_loopw [12, 13] (fun s12 s13 wq => ∃ j : Nat, j ≤ 64 ∧ s13 = .int .i64 j ∧ wq.ownsRow w.heap.size 3 1 s12 (rw64 S.u j).length ((rw64 S.u j).map iv) ∧ Ct w l.length wq c S) (fun _ s13 _ => 64 - (intOf s13).toNat)
      case atStart => exact ⟨0, by omega, rfl, World.ownsRow_nil _ _ _ _, h5⟩
      case round =>
        clear h5
        obtain ⟨j, hj, rfl, hr1, h5⟩ := hrel
        by_cases hjl : j < 64
        · have hjd : decide ((j : Int) < 64) = true := by simp; omega
          obtain ⟨x, hx⟩ : ∃ x, x = S.u j := ⟨_, rfl⟩
          have T1 : Hid (rw64 S.u (j + 1) = rw64 S.u j ++ [x]) := by rw [hx]; exact rw64_succ _ _
          have G1 : Hid (∀ W, Ct w l.length W c S → Calls Try.prog 19 #[.pointer (some ⟨c, 0, none⟩), .int .i64 j] W fun e w' => e = .returned (.int .i64 x) ∧ Ct w l.length w' c S ∧ Below W.heap.size W w') := fun W h => by rw [hx]; exact useT (j : Int) h
          have hl1 : (rw64 S.u j).length ≤ 1000000 := by rw [rw64_len]; omega
          obtain ⟨R1, hR1⟩ : ∃ R, R = rw64 S.u j := ⟨_, rfl⟩
          rw [← hR1] at T1 hl1 hr1
          clear hx hR1 hil hlt
          go_wp2_with fail
          refine (G1.out _ h5).mono ?_
          rintro e w5 ⟨rfl, h7, hb7⟩
          have hr1' := own_below hr1 hb7
          have hB7 := h7.bel.size
          clear h5 hr1 hb7 G1
          go_wp2_with (at_builtin; refine app_up w.heap.size R1 _ rfl _ _ rfl _ rfl hr1' x rfl hl1 hB7 ?_; intro v' w8 hown8 hb8 hty8 hg8 hat8)
          refine ⟨⟨j + 1, by omega, by go_num, ?_, h7.ty hb8 hty8 rfl⟩, by simp [intOf]; omega⟩
          rw [T1.out]; exact hown8
        · obtain rfl : j = 64 := by omega
          have hjd : decide (((64 : Nat) : Int) < 64) = false := by simp
          clear hjl hj hil hlt
          have hok := h5.is.ok
          have H1 : Hid (Calls Try.prog 13 #[.pointer (some ⟨c, 0, none⟩), .slice q L.length cap', .int .i64 n] wr fun e w' => e = .returned (.tuple #[.int .i64 (tryN S L n), .int .i64 (tryE S L n)]) ∧ Ct w (l.length + 1) w' c (tryC S L n) ∧ Ty pt wr w') :=
            (tryT n h5 (Stay.came HI.out h5.bel) (by omega) (by omega)).mono fun _ _ ⟨g1, g2, g3, _⟩ => ⟨g1, g2, g3⟩
          have hF := fun h => rolls_fail (S := S) L n h
          have hK := fun h => rolls_ok L n hok h
          have HU : Hid (∀ g, 0 ≤ S.u g ∧ S.u g ≤ 1099511627776) := hok.u
          obtain ⟨S1, hS1⟩ : ∃ S1, S1 = tryC S L n := ⟨_, rfl⟩
          obtain ⟨E, hE⟩ : ∃ E, E = tryE S L n := ⟨_, rfl⟩
          obtain ⟨A, hA⟩ : ∃ E, E = tryN S L n := ⟨_, rfl⟩
          rw [← hS1, ← hE, ← hA] at H1 hF hK
          have HF : Hid (E ≠ 0 → (∀ g, S1.u g = S.u g) ∧ (E = 1 ∨ E = 22 ∧ 0 ≤ A ∧ A < 64 ∧ 0 ≤ n ∧ n ≤ 1099511627776 ∧ S1.l A < S.u A + n)) := hF
          have HK : Hid (E = 0 → A = -1 ∧ (∀ g, S1.u g = if g ∈ L then S.u g + n else S.u g) ∧ 0 ≤ n ∧ giveE S1 L n = 0 ∧ ∀ g, (giveC S1 L n).u g = S.u g) := hK
          clear hS1 hE hA hok hF hK
          go_wp2_with fail
          refine H1.out.mono ?_
          rintro e w5 ⟨rfl, h7, t7⟩
          have hr1' := own_ty hr1 t7 rfl
          obtain ⟨g1, cp1, rfl, hc1⟩ := own_cell hr1'
          have HC1 : Hid (∀ W, Below w5.heap.size w5 W → ∀ i, i < 64 → W.cell? ⟨g1, i, none⟩ = some (.int .i64 (S.u i))) := fun W h i hi => cell_later h (hc1 i hi)
          have HOW : Hid (w5.ownsRow w.heap.size 3 1 (.slice (some ⟨g1, 0, none⟩) 64 cp1) (rw64 S.u 64).length ((rw64 S.u 64).map iv)) := hr1'
          clear h5 hr1 hr1' t7 H1 hc1
          go_wp2_with fail
          go_loopw [16, 17] (fun s16 s17 wq => ∃ i : Nat, i ≤ L.length ∧ s17 = .int .i64 i ∧ s16 = .bool (decide (ot ∈ L.take i)) ∧ Ct w (l.length + 1) wq c S1 ∧ Below w5.heap.size w5 wq) (fun _ s17 _ => L.length - (intOf s17).toNat)
          case atStart => exact ⟨0, by omega, rfl, by simp, h7, Below.refl _ _⟩
          case round =>
            clear h7
            obtain ⟨i, hi, rfl, rfl, h9, hb9⟩ := hrel
            by_cases hlt : i < L.length
            · have hil : decide ((i : Int) < (L.length : Int)) = true := by simp; omega
              obtain ⟨b, off, rfl, hcell⟩ := (HI.out.later h9.bel) i hlt
              have hT : (ot ∈ L.take (i + 1)) ↔ (ot ∈ L.take i ∨ ot = L[i]) := by
                rw [List.take_succ_eq_append_getElem hlt, List.mem_append, List.mem_singleton]
              obtain ⟨z, hz⟩ : ∃ z, z = L[i] := ⟨_, rfl⟩
              rw [← hz] at hT hcell
              clear hz HI HF HK HC1 HOW HU
              by_cases hm : ot ∈ L.take i
              · have HT : Hid (decide (ot ∈ L.take (i + 1)) = true) := by show _ = _; simp only [decide_eq_true_eq]; exact hT.2 (Or.inl hm)
                have hmd : decide (ot ∈ L.take i) = true := by simpa using hm
                rw [hmd]
                clear hT hm hmd
                go_wp2_with fail
                exact ⟨⟨i + 1, by omega, by go_num, by rw [HT.out], h9, hb9⟩, by simp [intOf]; omega⟩
              · have hmd : decide (ot ∈ L.take i) = false := by simpa using hm
                rw [hmd]
                by_cases he : z = ot
                · have HT : Hid (decide (ot ∈ L.take (i + 1)) = true) := by show _ = _; simp only [decide_eq_true_eq]; exact hT.2 (Or.inr he.symm)
                  have zz : (z == ot) = true := by simpa using he
                  clear hT hm hmd he
                  go_wp2_with fail
                  exact ⟨⟨i + 1, by omega, by go_num, by rw [HT.out], h9, hb9⟩, by simp [intOf]; omega⟩
                · have HT : Hid (decide (ot ∈ L.take (i + 1)) = false) := by
                    show _ = _
                    simp only [decide_eq_false_iff_not]
                    intro h
                    rcases hT.1 h with h | h
                    · exact hm h
                    · exact he h.symm
                  have zz : (z == ot) = false := by simpa using he
                  clear hT hm hmd he
                  go_wp2_with fail
                  exact ⟨⟨i + 1, by omega, by go_num, by rw [HT.out], h9, hb9⟩, by simp [intOf]; omega⟩
            · obtain rfl : i = L.length := by omega
              rw [List.take_of_length_le (Nat.le_refl _)]
              have hil : decide ((L.length : Int) < (L.length : Int)) = false := by simp
              clear hlt hi
              by_cases e0 : E = 0
              · subst e0
                obtain ⟨rfl, hu1, hn0, hge, hgu⟩ := HK.out rfl
                have HG : Hid (∀ W, Ct w (l.length + 1) W c S1 → Below w5.heap.size w5 W → Calls Try.prog 15 #[.pointer (some ⟨c, 0, none⟩), .slice q L.length cap', .int .i64 n] W fun e w' => e = .returned (.int .i64 0) ∧ Ct w (l.length + 1) w' c (giveC S1 L n) ∧ ∀ i, i < 64 → w'.cell? ⟨g1, i, none⟩ = some (.int .i64 (S.u i))) := by
                  intro W h hb
                  have := giveT (cap := cap') n h (Stay.came HI.out h.bel) (by omega)
                  rw [hge] at this
                  refine this.mono ?_
                  rintro e w' ⟨g1', g2, g3, -⟩
                  refine ⟨g1', g2, ?_⟩
                  obtain ⟨g', cp', e', hc'⟩ := own_cell (own_ty (own_below HOW.out hb) g3 rfl)
                  injection e' with e1 e2 e3
                  injection e1 with e1
                  injection e1 with e1
                  subst e1
                  exact hc'
                have HGU : Hid (∀ g, (giveC S1 L n).u g = S.u g) := hgu
                obtain ⟨S2, hS2⟩ : ∃ S2, S2 = giveC S1 L n := ⟨_, rfl⟩
                rw [← hS2] at HG HGU
                have HU1 : Hid (∀ g, S1.u g = if g ∈ L then S.u g + n else S.u g) := hu1
                clear hge hgu hS2 HK HF HI HOW hu1
                go_upto_region 32 with fail
                go_cut [16, 169] (fun _ s169 wx => s169 = .bool false ∧ Ct w (l.length + 1) wx c S1 ∧ Below w5.heap.size w5 wx)
                case first =>
                  clear HG HGU
                  by_cases o1 : ot < 0
                  · have z1 : decide (0 ≤ ot) = false := by simp; omega
                    have hne := Up.any wr
                    clear HC1 HU HU1
                    refine wp_region_up (by kernel_rfl) (by kernel_rfl) ?_
                    repeat (go_big_quiet_step (fail))
                    refine wpQuiet_nil ?_
                    intro w17 hw'
                    obtain ⟨⟨_, hbw⟩, rfl⟩ := hw'
                    have h10 := h9.grow hbw
                    have hb10 := bel_trans hb9 hbw (Nat.le_refl _)
                    go_wp2_with fail
                    go_meet
                    exact ⟨rfl, h10, hb10⟩
                  by_cases o2 : 64 ≤ ot
                  · have z1 : decide (0 ≤ ot) = true := by simp; omega
                    have z2 : decide (ot < 64) = false := by simp; omega
                    have hne := Up.any wr
                    clear HC1 HU HU1
                    refine wp_region_up (by kernel_rfl) (by kernel_rfl) ?_
                    repeat (go_big_quiet_step (fail))
                    refine wpQuiet_nil ?_
                    intro w17 hw'
                    obtain ⟨⟨_, hbw⟩, rfl⟩ := hw'
                    have h10 := h9.grow hbw
                    have hb10 := bel_trans hb9 hbw (Nat.le_refl _)
                    go_wp2_with fail
                    go_meet
                    exact ⟨rfl, h10, hb10⟩
                  obtain ⟨k, rfl⟩ := Int.eq_ofNat_of_zero_le (by omega : 0 ≤ ot)
                  have hk : k < 64 := by omega
                  have z2 : decide ((k : Int) < 64) = true := by simp; omega
                  have c1 := HC1.out _ hb9 k hk
                  have hu1 := HU1.out k
                  have hub := HU.out k
                  obtain ⟨u1, hu1'⟩ : ∃ x, x = S1.u k := ⟨_, rfl⟩
                  obtain ⟨u0, hu0'⟩ : ∃ x, x = S.u k := ⟨_, rfl⟩
                  have GU : Hid (∀ W, Ct w (l.length + 1) W c S1 → Calls Try.prog 19 #[.pointer (some ⟨c, 0, none⟩), .int .i64 k] W fun e w' => e = .returned (.int .i64 u1) ∧ Below W.heap.size W w') := fun W h => by rw [hu1']; exact (useT (k : Int) h).mono fun _ _ ⟨g1, _, g3⟩ => ⟨g1, g3⟩
                  rw [← hu1', ← hu0'] at hu1
                  rw [← hu0'] at c1 hub
                  have k1 := Up.cell c1
                  have hne := Up.any wr
                  clear HC1 HU HU1 hu1' hu0' o1 o2
                  by_cases hin : (k : Int) ∈ L
                  · have hid : decide ((k : Int) ∈ L) = true := by simpa using hin
                    rw [hid]
                    rw [if_pos hin] at hu1
                    by_cases hn : 0 < n
                    · have z3 : decide (0 < n) = true := by simp; omega
                      have z4 : (u1 == u0) = false := by simp; omega
                      clear hin hid hu1 hn hub
                      refine wp_region_up (by kernel_rfl) (by kernel_rfl) ?_
                      repeat (go_big_quiet_step ((go_at_call 19; refine Up.call (GU.out _ (h9.up _)))))
                      refine wpQuiet_nil ?_
                      intro w17 hw'
                      obtain ⟨⟨_, hbw⟩, rfl⟩ := hw'
                      have h10 := h9.grow hbw
                      have hb10 := bel_trans hb9 hbw (Nat.le_refl _)
                      go_wp2_with fail
                      go_meet
                      exact ⟨rfl, h10, hb10⟩
                    · have z3 : decide (0 < n) = false := by simp; omega
                      have z4 : (u1 == u0) = true := by simp; omega
                      clear hin hid hu1 hn hub
                      refine wp_region_up (by kernel_rfl) (by kernel_rfl) ?_
                      repeat (go_big_quiet_step ((go_at_call 19; refine Up.call (GU.out _ (h9.up _)))))
                      refine wpQuiet_nil ?_
                      intro w17 hw'
                      obtain ⟨⟨_, hbw⟩, rfl⟩ := hw'
                      have h10 := h9.grow hbw
                      have hb10 := bel_trans hb9 hbw (Nat.le_refl _)
                      go_wp2_with fail
                      go_meet
                      exact ⟨rfl, h10, hb10⟩
                  · have hid : decide ((k : Int) ∈ L) = false := by simpa using hin
                    rw [hid]
                    rw [if_neg hin] at hu1
                    have z4 : (u1 == u0) = true := by simp; omega
                    clear hin hid hu1 hub
                    refine wp_region_up (by kernel_rfl) (by kernel_rfl) ?_
                    repeat (go_big_quiet_step ((go_at_call 19; refine Up.call (GU.out _ (h9.up _)))))
                    refine wpQuiet_nil ?_
                    intro w17 hw'
                    obtain ⟨⟨_, hbw⟩, rfl⟩ := hw'
                    have h10 := h9.grow hbw
                    have hb10 := bel_trans hb9 hbw (Nat.le_refl _)
                    go_wp2_with fail
                    go_meet
                    exact ⟨rfl, h10, hb10⟩
                case rest =>
                  clear h9 hb9 HC1 HU HU1
                  obtain ⟨rfl, h9, hb9⟩ := hcut
                  go_wp2_with fail
                  refine (HG.out _ h9 hb9).mono ?_
                  rintro e w6 ⟨rfl, h6, hc6⟩
                  have HC6 : Hid (∀ W, Below w6.heap.size w6 W → ∀ i, i < 64 → W.cell? ⟨g1, i, none⟩ = some (.int .i64 (S.u i))) := fun W h i hi => cell_later h (hc6 i hi)
                  clear h9 hb9 hc6 HG
                  go_wp2_with fail
                  go_loopw [20] (fun s20 wq => ∃ j : Nat, j ≤ 64 ∧ s20 = .int .i64 j ∧ Ct w (l.length + 1) wq c S2 ∧ Below w6.heap.size w6 wq) (fun s20 _ => 64 - (intOf s20).toNat)
                  case atStart => exact ⟨0, by omega, rfl, h6, Below.refl _ _⟩
                  case round =>
                    clear h6
                    obtain ⟨j, hj, rfl, h9, hb9⟩ := hrel
                    by_cases hjl : j < 64
                    · have hjd : decide ((j : Int) < 64) = true := by simp; omega
                      have c1 := HC6.out _ hb9 j hjl
                      have hu := HGU.out j
                      obtain ⟨u, hu'⟩ : ∃ x, x = S.u j := ⟨_, rfl⟩
                      rw [← hu'] at c1 hu
                      have GU : Hid (∀ W, Ct w (l.length + 1) W c S2 → Calls Try.prog 19 #[.pointer (some ⟨c, 0, none⟩), .int .i64 j] W fun e w' => e = .returned (.int .i64 u) ∧ Below W.heap.size W w') := fun W h => by rw [← hu]; exact (useT (j : Int) h).mono fun _ _ ⟨g1, _, g3⟩ => ⟨g1, g3⟩
                      have zu : (u != u) = false := by simp
                      have k1 := Up.cell c1
                      have hne := Up.any wr
                      clear hu hu' HC6 HGU
                      go_wp2_with fail
                      refine wp_region_up (by kernel_rfl) (by kernel_rfl) ?_
                      repeat (go_big_quiet_step ((go_at_call 19; refine Up.call (GU.out _ (h9.up _)))))
                      refine wpQuiet_nil ?_
                      intro w17 hw'
                      obtain ⟨⟨_, hbw⟩, rfl⟩ := hw'
                      have h10 := h9.grow hbw
                      have hb10 := bel_trans hb9 hbw (Nat.le_refl _)
                      clear c1 k1 hne GU h9 hbw hb9
                      go_wp2_with fail
                      exact ⟨⟨j + 1, by omega, by go_num, h10, hb10⟩, by simp [intOf]; omega⟩
                    · obtain rfl : j = 64 := by omega
                      have hjd : decide (((64 : Nat) : Int) < 64) = false := by simp
                      clear HC6 HGU
                      go_wp2_with fail
                      go_ret
                      exact ⟨rfl, h9.bel⟩
              · have ze : (E != 0) = true := by simpa using e0
                obtain ⟨hu1, hcase⟩ := HF.out e0
                have HU1 : Hid (∀ g, S1.u g = S.u g) := hu1
                have HCASE : Hid (E = 1 ∨ E = 22 ∧ 0 ≤ A ∧ A < 64 ∧ 0 ≤ n ∧ n ≤ 1099511627776 ∧ S1.l A < S.u A + n) := hcase
                clear hu1 hcase HF HK HI HOW e0
                go_wp2_with fail
                go_loopw [18] (fun s18 wq => ∃ j : Nat, j ≤ 64 ∧ s18 = .int .i64 j ∧ Ct w (l.length + 1) wq c S1 ∧ Below w5.heap.size w5 wq) (fun s18 _ => 64 - (intOf s18).toNat)
                case atStart => exact ⟨0, by omega, rfl, h9, hb9⟩
                case round =>
                  clear h9 hb9
                  obtain ⟨j, hj, rfl, h9, hb9⟩ := hrel
                  by_cases hjl : j < 64
                  · have hjd : decide ((j : Int) < 64) = true := by simp; omega
                    have c1 := HC1.out _ hb9 j hjl
                    have hu := HU1.out j
                    obtain ⟨u, hu'⟩ : ∃ x, x = S.u j := ⟨_, rfl⟩
                    rw [← hu'] at c1 hu
                    have GU : Hid (∀ W, Ct w (l.length + 1) W c S1 → Calls Try.prog 19 #[.pointer (some ⟨c, 0, none⟩), .int .i64 j] W fun e w' => e = .returned (.int .i64 u) ∧ Below W.heap.size W w') := fun W h => by rw [← hu]; exact (useT (j : Int) h).mono fun _ _ ⟨g1, _, g3⟩ => ⟨g1, g3⟩
                    have zu : (u != u) = false := by simp
                    have k1 := Up.cell c1
                    have hne := Up.any wr
                    clear hu hu' HC1 HU1 HCASE HU
                    go_wp2_with fail
                    refine wp_region_up (by kernel_rfl) (by kernel_rfl) ?_
                    repeat (go_big_quiet_step ((go_at_call 19; refine Up.call (GU.out _ (h9.up _)))))
                    refine wpQuiet_nil ?_
                    intro w17 hw'
                    obtain ⟨⟨_, hbw⟩, rfl⟩ := hw'
                    have h10 := h9.grow hbw
                    have hb10 := bel_trans hb9 hbw (Nat.le_refl _)
                    clear c1 k1 hne GU h9 hbw hb9
                    go_wp2_with fail
                    exact ⟨⟨j + 1, by omega, by go_num, h10, hb10⟩, by simp [intOf]; omega⟩
                  · obtain rfl : j = 64 := by omega
                    have hjd : decide (((64 : Nat) : Int) < 64) = false := by simp
                    rcases HCASE.out with rfl | ⟨rfl, a0, a1, n0, n1, hlim⟩
                    · have hne := Up.any wr
                      clear HC1 HU1 HCASE HU
                      go_wp2_with fail
                      refine wp_region_up (by kernel_rfl) (by kernel_rfl) ?_
                      repeat (go_big_quiet_step (fail))
                      refine wpQuiet_nil ?_
                      intro w17 hw'
                      obtain ⟨⟨_, hbw⟩, rfl⟩ := hw'
                      have h10 := h9.grow hbw
                      have hb10 := bel_trans hb9 hbw (Nat.le_refl _)
                      go_wp2_with fail
                      go_ret
                      exact ⟨rfl, h10.bel⟩
                    · obtain ⟨k, rfl⟩ := Int.eq_ofNat_of_zero_le a0
                      have hk : k < 64 := by omega
                      have z2 : decide ((k : Int) < 64) = true := by simp; omega
                      have c1 := HC1.out _ hb9 k hk
                      have hub := HU.out k
                      obtain ⟨u0, hu0⟩ : ∃ x, x = S.u k := ⟨_, rfl⟩
                      obtain ⟨lm, hlm⟩ : ∃ x, x = S1.l k := ⟨_, rfl⟩
                      have GL : Hid (∀ W, Ct w (l.length + 1) W c S1 → Calls Try.prog 20 #[.pointer (some ⟨c, 0, none⟩), .int .i64 k] W fun e w' => e = .returned (.int .i64 lm) ∧ Below W.heap.size W w') := fun W h => by rw [hlm]; exact (limT (k : Int) h).mono fun _ _ ⟨g1, _, g3⟩ => ⟨g1, g3⟩
                      rw [← hu0] at c1 hub hlim
                      rw [← hlm] at hlim
                      have z3 : decide (lm < u0 + n) = true := by simp; omega
                      have ew : IntKind.i64.wrap (u0 + n) = u0 + n := by rw [IntKind.wrap_i64]; omega
                      have k1 := Up.cell c1
                      have hne := Up.any wr
                      clear HC1 HU1 HCASE HU hu0 hlm hlim
                      go_wp2_with fail
                      refine wp_region_up (by kernel_rfl) (by kernel_rfl) ?_
                      repeat (go_big_quiet_step ((go_at_call 20; refine Up.call (GL.out _ (h9.up _)))))
                      refine wpQuiet_nil ?_
                      intro w17 hw'
                      obtain ⟨⟨_, hbw⟩, rfl⟩ := hw'
                      have h10 := h9.grow hbw
                      have hb10 := bel_trans hb9 hbw (Nat.le_refl _)
                      go_wp2_with fail
                      go_ret
                      exact ⟨rfl, h10.bel⟩

theorem rolls_walk (a : Option Addr) (cap : Nat) (l : List Ac) (q : Option Addr) (cap' : Nat) (L : List Int) (n ot : Int) (w : World) (hc : ActsAt w a l) (hI : Ints w q L) :
    Calls Try.prog 4 #[.slice a l.length cap, .slice q L.length cap', .int .i64 n, .int .i64 ot] w fun e w' => e = .returned (.bool true) ∧ Below w.heap.size w w' := by
  cases hov : ov l with
  | true => exact rolls_out a cap l q cap' L n ot w hc (Or.inl hov)
  | false =>
    by_cases h : 80 < L.length
    · exact rolls_out a cap l q cap' L n ot w hc (Or.inr ⟨hov, h⟩)
    · exact rolls_in a cap l q cap' L n ot w hc hI hov (by omega)
end Go.Proofs.Ytpageadhmgoddaa
