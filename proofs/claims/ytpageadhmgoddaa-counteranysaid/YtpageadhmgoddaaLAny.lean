/-
  The law CounterAny walked.
-/
import Derived.Test.YtpageadhmgoddaaApp
namespace Go.Proofs.Ytpageadhmgoddaa
open Go.RowKit

/-- An act's cells, in whatever world that keeps what came in. -/
theorem ActsAt.told {w : World} {a : Option Addr} {l : List Ac} (h : ActsAt w a l) {i : Nat} (hi : i < l.length) : ∃ b off, a = some ⟨b, off, none⟩ ∧ ∀ W, Below w.heap.size w W →
    W.cell? ⟨b, off + i * 4, none⟩ = some (.int .i64 l[i].k) ∧ W.cell? ⟨b, off + i * 4 + 1, none⟩ = some (.slice l[i].a l[i].l.length l[i].cap) ∧ W.cell? ⟨b, off + i * 4 + 2, none⟩ = some (.int .i64 l[i].g) ∧ W.cell? ⟨b, off + i * 4 + 3, none⟩ = some (.int .i64 l[i].n) := by
  obtain ⟨b, off, hab, h1, h2⟩ := h.2 i hi
  refine ⟨b, off, hab, fun W hW => ?_⟩
  obtain ⟨b', off', hab', k0, k1, k2, k3, -⟩ := (h.below hW).at hi
  rw [hab] at hab'
  have e := Option.some.inj hab'
  injection e with e1 e2
  subst e1
  subst e2
  exact ⟨k0, k1, k2, k3⟩
theorem ActsAt.ints {w : World} {a : Option Addr} {l : List Ac} (h : ActsAt w a l) {i : Nat} (hi : i < l.length) : Ints w l[i].a l[i].l := by
  obtain ⟨b, off, -, -, h2⟩ := h.2 i hi
  exact h2

/-- Two counters, made since w0. -/
structure Tw (w0 : World) (N M : Nat) (w : World) (c d : Nat) (S T : Cs) : Prop where
  p : CtIs w0.heap.size N w c S
  q : CtIs w0.heap.size M w d T
  ne : c ≠ d
  bel : Below w0.heap.size w0 w
section
variable {w0 w w' : World} {N M c d : Nat} {S T : Cs}
theorem Tw.grow (h : Tw w0 N M w c d S T) (hb : Below w.heap.size w w') : Tw w0 N M w' c d S T := ⟨h.p.below hb, h.q.below hb, h.ne, bel_trans h.bel hb (Nat.le_refl _)⟩
theorem Tw.symm (h : Tw w0 N M w c d S T) : Tw w0 M N w d c T S := ⟨h.q, h.p, h.ne.symm, h.bel⟩
theorem Tw.more (h : Tw w0 N M w c d S T) {N' M' : Nat} (hm : N ≤ N') (hm' : M ≤ M') : Tw w0 N' M' w c d S T := ⟨⟨h.p.row, h.p.lo, h.p.ok.mono hm⟩, ⟨h.q.row, h.q.lo, h.q.ok.mono hm'⟩, h.ne, h.bel⟩
theorem Tw.drewN (h : Tw w0 N M w c d S T) (n : Nat) : Tw w0 N M (w.drewN n) c d S T := ⟨⟨h.p.row.drewN n, h.p.lo, h.p.ok⟩, ⟨h.q.row.drewN n, h.q.lo, h.q.ok⟩, h.ne, below_drawn h.bel n⟩
theorem Tw.set (g n : Int) (h : Tw w0 N M w c d S T) : Calls Try.prog 17 #[.pointer (some ⟨c, 0, none⟩), .int .i64 g, .int .i64 n] w fun e w' => e = .returned (.int .i64 (setE g n)) ∧ Tw w0 N M w' c d (setC S g n) T :=
  (pset _ N c S g n w h.p).mono fun _ _ ⟨h1, h2, h3, _, h5⟩ => ⟨h1, h2, ⟨h.q.row.apart h5 h.ne.symm, h.q.lo, h.q.ok⟩, h.ne, h.bel.trans h3⟩
theorem Tw.try {a : Option Addr} {cap : Nat} {L : List Int} (n : Int) (h : Tw w0 N M w c d S T) (hI : Stay w0.heap.size w a L) (hl : L.length ≤ 1000000) (hN : N ≤ 1000000) :
    Calls Try.prog 13 #[.pointer (some ⟨c, 0, none⟩), .slice a L.length cap, .int .i64 n] w fun e w' => e = .returned (.tuple #[.int .i64 (tryN S L n), .int .i64 (tryE S L n)]) ∧ Tw w0 (N + 1) M w' c d (tryC S L n) T ∧ Ty pt w w' :=
  (ptry _ N c S a cap L n w h.p hI hl hN).mono fun _ _ ⟨h1, h2, h3, h4, h5⟩ => ⟨h1, ⟨h2, ⟨h.q.row.apart h5 h.ne.symm, h.q.lo, h.q.ok⟩, h.ne, h.bel.trans h3⟩, h4⟩
theorem Tw.use (x : Int) (h : Tw w0 N M w c d S T) : Calls Try.prog 19 #[.pointer (some ⟨c, 0, none⟩), .int .i64 x] w fun e w' => e = .returned (.int .i64 (S.u x)) ∧ Tw w0 N M w' c d S T :=
  (puse _ N c S x w h.p).mono fun _ _ ⟨h1, h2⟩ => ⟨h1, h.grow h2⟩
theorem Tw.new (h : Ct w0 N w c S) : Calls Try.prog 11 #[] w fun e w' => ∃ d, e = .returned (.pointer (some ⟨d, 0, none⟩)) ∧ Tw w0 N 0 w' c d S newC :=
  (pnew w).mono fun _ _ ⟨d, h1, h2, h3⟩ => ⟨d, h1, h.is.below h3, ⟨h2.row, Nat.le_trans h.bel.size h2.lo, h2.ok⟩, (fun e => by have := h.is.lt; have := h2.lo; omega), bel_trans h.bel h3 (Nat.le_refl _)⟩
end

/-- In whatever order a chain is told. -/
theorem okC_rev (L : List Int) (n : Int) : okC L.reverse n = okC L n := by
  have h1 : (L.reverse.Nodup) ↔ L.Nodup := by
    unfold List.Nodup
    rw [List.pairwise_reverse]
    exact ⟨fun h => h.imp fun e => Ne.symm e, fun h => h.imp fun e => Ne.symm e⟩
  simp only [okC, okL, List.all_reverse, h1]
theorem find_rev (p : Int → Bool) (L : List Int) : (L.reverse.find? p).isSome = (L.find? p).isSome := by
  rw [Bool.eq_iff_iff, List.find?_isSome, List.find?_isSome]
  simp
theorem any_math (S : Cs) (L : List Int) (n : Int) : tryE S L.reverse n = tryE S L n ∧ ∀ g, (tryC S L.reverse n).u g = (tryC S L n).u g := by
  cases hk : okC L n with
  | false =>
    obtain ⟨e1, -, e2⟩ := try_bad (S := S) hk
    obtain ⟨e3, -, e4⟩ := try_bad (S := S) ((okC_rev L n).trans hk)
    rw [e1, e2, e3, e4]
    exact ⟨rfl, fun _ => rfl⟩
  | true =>
    have hr := find_rev (over S n) L
    cases hf : L.find? (over S n) with
    | none =>
      cases hg : L.reverse.find? (over S n) with
      | some g => rw [hf, hg] at hr; cases hr
      | none =>
        obtain ⟨e1, -, e2⟩ := try_ok hk hf
        obtain ⟨e3, -, e4⟩ := try_ok ((okC_rev L n).trans hk) hg
        rw [e1, e2, e3, e4]
        exact ⟨rfl, fun g => by simp [growC]⟩
    | some g =>
      cases hg : L.reverse.find? (over S n) with
      | none => rw [hf, hg] at hr; cases hr
      | some g2 =>
        obtain ⟨e1, -, e2⟩ := try_fail hk hf
        obtain ⟨e3, -, e4⟩ := try_fail ((okC_rev L n).trans hk) hg
        rw [e1, e2, e3, e4]
        exact ⟨rfl, fun _ => rfl⟩

theorem Tw.ty {C : TypeId → Bool} {w0 w w' : World} {N M c d : Nat} {S T : Cs} (h : Tw w0 N M w c d S T) (hb : Below w0.heap.size w w') (ht : Ty C w w') (h1 : C 49 = false) : Tw w0 N M w' c d S T := ⟨h.p.ty ht h1, h.q.ty ht h1, h.ne, h.bel.trans hb⟩

theorem any_out (a : Option Addr) (cap : Nat) (l : List Ac) (q : Option Addr) (cap' : Nat) (L : List Int) (n : Int) (w : World) (hc : ActsAt w a l) (h : ov l = true ∨ ov l = false ∧ 80 < L.length) :
    Calls Try.prog 7 #[.slice a l.length cap, .slice q L.length cap', .int .i64 n] w fun e w' => e = .returned (.bool true) ∧ Below w.heap.size w w' := by
  have HO : Hid (∀ W, Below w.heap.size w W → Calls Try.prog 10 #[.slice a l.length cap] W fun e w' => e = .returned (.bool (ov l)) ∧ w' = W) := fun W h => over_any a cap l W (hc.below h)
  clear hc
  rcases h with h | ⟨h, h2⟩
  · rw [h] at HO
    clear h
    go_enter Try.func7, Try.ntmps7
    go_wp2_with fail
    refine (works_any _).mono ?_
    rintro e w1 ⟨rfl, hb⟩
    go_wp2_with fail
    refine (HO.out _ hb).mono ?_
    rintro e w2 ⟨rfl, rfl⟩
    go_wp2_with fail
    go_ret
    exact ⟨rfl, hb⟩
  · rw [h] at HO
    have d0 : decide ((80 : Int) < (L.length : Int)) = true := by simp; omega
    clear h h2
    go_enter Try.func7, Try.ntmps7
    go_wp2_with fail
    refine (works_any _).mono ?_
    rintro e w1 ⟨rfl, hb⟩
    go_wp2_with fail
    refine (HO.out _ hb).mono ?_
    rintro e w2 ⟨rfl, rfl⟩
    go_wp2_with fail
    go_ret
    exact ⟨rfl, hb⟩

set_option maxRecDepth 100000 in
set_option maxHeartbeats 8000000 in
theorem any_in (a : Option Addr) (cap : Nat) (l : List Ac) (q : Option Addr) (cap' : Nat) (L : List Int) (n : Int) (w : World) (hc : ActsAt w a l) (hI : Ints w q L) (hov : ov l = false) (hL : L.length ≤ 80) :
    Calls Try.prog 7 #[.slice a l.length cap, .slice q L.length cap', .int .i64 n] w fun e w' => e = .returned (.bool true) ∧ Below w.heap.size w w' := by
  have HO : Hid (∀ W, Below w.heap.size w W → Calls Try.prog 10 #[.slice a l.length cap] W fun e w' => e = .returned (.bool false) ∧ w' = W) := fun W h => by
    have := over_any a cap l W (hc.below h)
    rw [hov] at this
    exact this
  have hl := (ov_no hov).1
  have HS : Hid (∀ i (hi : i < l.length), l[i].l.length ≤ 80) := (ov_no hov).2
  have HC : Hid (ActsAt w a l) := hc
  have HI : Hid (Ints w q L) := hI
  have d0 : decide ((80 : Int) < (L.length : Int)) = false := by simp; omega
  clear hc hI hov
  go_enter Try.func7, Try.ntmps7
  go_wp2_with fail
  refine (works_any _).mono ?_
  rintro e w1 ⟨rfl, hb⟩
  go_wp2_with fail
  refine (HO.out _ hb).mono ?_
  rintro e w2 ⟨rfl, rfl⟩
  go_wp2_with fail
  refine (newT hb).mono ?_
  rintro e w3 ⟨c, rfl, h3, -⟩
  go_wp2_with fail
  refine (Tw.new h3).mono ?_
  rintro e w4 ⟨d, rfl, h4⟩
  clear hb h3
  go_wp2_with fail
  go_loopw [10] (fun s10 wr => ∃ (i : Nat) (S : Cs), i ≤ l.length ∧ s10 = .int .i64 i ∧ Tw w i i wr c d S S) (fun s10 _ => l.length - (intOf s10).toNat)
  case atStart => exact ⟨0, _, by omega, rfl, h4⟩
  case round =>
    clear h4
    obtain ⟨i, S, hi, rfl, h5⟩ := hrel
    by_cases hlt : i < l.length
    -- ACTS
    · have hil : decide ((i : Int) < (l.length : Int)) = true := by simp; omega
      obtain ⟨b, off, rfl, hcell⟩ := HC.out.told hlt
      have hIn := HC.out.ints hlt
      have hS := HS.out i hlt
      obtain ⟨k0, k1, k2, k3⟩ := hcell wr h5.bel
      obtain ⟨K, hK⟩ : ∃ K, K = l[i].k := ⟨_, rfl⟩
      obtain ⟨A, hA⟩ : ∃ A, A = l[i].a := ⟨_, rfl⟩
      obtain ⟨M, hM⟩ : ∃ M, M = l[i].l := ⟨_, rfl⟩
      obtain ⟨C, hC⟩ : ∃ C, C = l[i].cap := ⟨_, rfl⟩
      obtain ⟨G, hG⟩ : ∃ C, C = l[i].g := ⟨_, rfl⟩
      obtain ⟨X, hX⟩ : ∃ C, C = l[i].n := ⟨_, rfl⟩
      simp only [← hK, ← hA, ← hM, ← hC, ← hG, ← hX] at hcell k0 k1 k2 k3 hIn hS
      have HCELL : Hid (∀ W, Below w.heap.size w W → W.cell? ⟨b, off + i * 4, none⟩ = some (.int .i64 K) ∧ W.cell? ⟨b, off + i * 4 + 1, none⟩ = some (.slice A M.length C) ∧ W.cell? ⟨b, off + i * 4 + 2, none⟩ = some (.int .i64 G) ∧ W.cell? ⟨b, off + i * 4 + 3, none⟩ = some (.int .i64 X)) := hcell
      have HIN : Hid (∀ W, Below w.heap.size w W → Stay w.heap.size W A M) := fun W h => Stay.came hIn h
      clear hcell hIn hK hA hM hC hG hX HI HC HS HO
      by_cases hk : K.tmod 3 = 2
      · have hd : (K.tmod 3 == 2) = true := by simpa using hk
        have H1 : Hid (∀ m, Calls Try.prog 17 #[.pointer (some ⟨c, 0, none⟩), .int .i64 G, .int .i64 X] (wr.drewN m) fun e w' => e = .returned (.int .i64 (setE G X)) ∧ Tw w i i w' c d (setC S G X) S) := fun m => Tw.set G X (h5.drewN m)
        have H2 : Hid (∀ W m, Tw w i i W c d (setC S G X) S → Calls Try.prog 17 #[.pointer (some ⟨d, 0, none⟩), .int .i64 G, .int .i64 X] (W.drewN m) fun e w' => e = .returned (.int .i64 (setE G X)) ∧ Tw w (i + 1) (i + 1) w' c d (setC S G X) (setC S G X)) := fun W m h => (Tw.set G X (h.symm.drewN m)).mono fun _ _ ⟨g1, g2⟩ => ⟨g1, g2.symm.more (by omega) (by omega)⟩
        clear hS HIN h5
        go_wp2_with fail
        go_cut [10] (fun s10 wx => s10 = .int .i64 i ∧ Tw w i i wx c d (setC S G X) S)
        case first =>
          go_region_with (go_at_call 17; refine (H1.out 1).mono ?_; rintro e w5 ⟨rfl, h6⟩)
          all_goals
            go_wp2_with fail
            go_meet
            exact ⟨rfl, h6⟩
        case rest =>
          clear k0 k1 k2 k3 H1
          obtain ⟨rfl, h6⟩ := hcut
          obtain ⟨k0, k1, k2, k3⟩ := HCELL.out _ h6.bel
          go_wp2_with fail
          go_region_with (go_at_call 17; refine (H2.out _ 1 h6).mono ?_; rintro e w7 ⟨rfl, h8⟩)
          all_goals
            clear k0 k1 k2 k3 H2 HCELL h6
            go_wp2_with fail
            exact ⟨⟨i + 1, _, by omega, by go_num, h8⟩, by simp [intOf]; omega⟩
      · have hd : (K.tmod 3 == 2) = false := by simpa using hk
        have H1 : Hid (∀ m, Calls Try.prog 13 #[.pointer (some ⟨c, 0, none⟩), .slice A M.length C, .int .i64 X] (wr.drewN m) fun e w' => e = .returned (.tuple #[.int .i64 (tryN S M X), .int .i64 (tryE S M X)]) ∧ Tw w (i + 1) i w' c d (tryC S M X) S) := fun m => (Tw.try X (h5.drewN m) (HIN.out _ (h5.drewN m).bel) (by omega) (by omega)).mono fun _ _ ⟨g1, g2, _⟩ => ⟨g1, g2⟩
        have H2 : Hid (∀ W m, Tw w (i + 1) i W c d (tryC S M X) S → Calls Try.prog 13 #[.pointer (some ⟨d, 0, none⟩), .slice A M.length C, .int .i64 X] (W.drewN m) fun e w' => e = .returned (.tuple #[.int .i64 (tryN S M X), .int .i64 (tryE S M X)]) ∧ Tw w (i + 1) (i + 1) w' c d (tryC S M X) (tryC S M X)) :=
          fun W m h => (Tw.try X (h.symm.drewN m) (HIN.out _ (h.drewN m).bel) (by omega) (by omega)).mono fun _ _ ⟨g1, g2, _⟩ => ⟨g1, g2.symm⟩
        clear hS HIN h5
        go_wp2_with fail
        go_cut [10] (fun s10 wx => s10 = .int .i64 i ∧ Tw w (i + 1) i wx c d (tryC S M X) S)
        case first =>
          go_region_with (go_at_call 13; refine (H1.out 1).mono ?_; rintro e w5 ⟨rfl, h6⟩)
          all_goals
            go_wp2_with fail
            go_meet
            exact ⟨rfl, h6⟩
        case rest =>
          clear k0 k1 k2 k3 H1
          obtain ⟨rfl, h6⟩ := hcut
          obtain ⟨k0, k1, k2, k3⟩ := HCELL.out _ h6.bel
          go_wp2_with fail
          go_region_with (go_at_call 13; refine (H2.out _ 1 h6).mono ?_; rintro e w7 ⟨rfl, h8⟩)
          all_goals
            clear k0 k1 k2 k3 H2 HCELL h6
            go_wp2_with fail
            exact ⟨⟨i + 1, _, by omega, by go_num, h8⟩, by simp [intOf]; omega⟩
    -- REST
    · obtain rfl : i = l.length := by omega
      have hil : decide ((l.length : Int) < (l.length : Int)) = false := by simp
      clear HC HS HO
      go_wp2_with fail
      go_loopw [11, 12] (fun s11 s12 wq => ∃ j : Nat, j ≤ L.length ∧ s12 = .int .i64 ((L.length : Int) - 1 - j) ∧ wq.ownsRow w.heap.size 3 1 s11 (L.reverse.take j).length ((L.reverse.take j).map iv) ∧ Tw w l.length l.length wq c d S S) (fun _ s12 _ => (intOf s12 + 1).toNat)
      case atStart => exact ⟨0, by omega, by simp, World.ownsRow_nil _ _ _ _, h5⟩
      case round =>
        clear h5
        obtain ⟨j, hj, rfl, hrow, h6⟩ := hrel
        by_cases hjl : j < L.length
        · obtain ⟨m, hm⟩ : ∃ m, m = L.length - 1 - j := ⟨_, rfl⟩
          have hm1 : (L.length : Int) - 1 - j = (m : Int) := by omega
          have hml : m < L.length := by omega
          obtain ⟨b, off, rfl, hcell⟩ := (HI.out.later h6.bel) m hml
          have hT : Hid (L.reverse.take (j + 1) = L.reverse.take j ++ [L[m]]) := by
            show _ = _
            rw [List.take_succ_eq_append_getElem (by simpa using hjl)]
            congr 2
            rw [List.getElem_reverse]
            congr 1
            omega
          obtain ⟨z, hz⟩ : ∃ z, z = L[m] := ⟨_, rfl⟩
          rw [← hz] at hT hcell
          have hlen : (L.reverse.take j).length ≤ 80 := by
            rw [List.length_take, List.length_reverse]; omega
          have HJ : Hid ((L.length : Int) - 1 - ((j + 1 : Nat) : Int) = (m : Int) - 1) := by show _ = _; omega
          have HM : Hid (m < (L.length - 1 - j) + 1) := by show _ < _; omega
          have hB := h6.bel.size
          obtain ⟨R, hR⟩ : ∃ R, R = L.reverse.take j := ⟨_, rfl⟩
          rw [← hR] at hT hlen hrow
          clear hz hR
          rw [hm1]
          have hd : decide ((0 : Int) ≤ (m : Int)) = true := by simp
          have HJL : Hid (j + 1 ≤ L.length) := hjl
          clear hm hm1 hil hjl hlt
          go_wp2_with (at_builtin; refine app_up w.heap.size R _ rfl _ _ rfl _ rfl hrow z rfl (by omega) hB ?_; intro v' w5 hown' hb5 hty5 _ _)
          refine ⟨⟨j + 1, HJL.out, by rw [HJ.out], ?_, h6.ty hb5 hty5 rfl⟩, ?_⟩
          · rw [hT.out]; exact hown'
          · simp [intOf]
        · obtain rfl : j = L.length := by omega
          rw [List.take_of_length_le (by simp)] at hrow
          have hm1 : (L.length : Int) - 1 - (L.length : Int) = -1 := by omega
          rw [hm1]
          have hd : decide ((0 : Int) ≤ (-1 : Int)) = false := rfl
          clear hm1 hil hlt hjl
          obtain ⟨m1, m2⟩ := any_math S L n
          obtain ⟨E, hE⟩ : ∃ E, E = tryE S L n := ⟨_, rfl⟩
          obtain ⟨S1, hS1⟩ : ∃ S1, S1 = tryC S L n := ⟨_, rfl⟩
          obtain ⟨S2, hS2⟩ : ∃ S2, S2 = tryC S L.reverse n := ⟨_, rfl⟩
          have H1 : Hid (Calls Try.prog 13 #[.pointer (some ⟨c, 0, none⟩), .slice q L.length cap', .int .i64 n] wr fun e w' => e = .returned (.tuple #[.int .i64 (tryN S L n), .int .i64 E]) ∧ Tw w (l.length + 1) l.length w' c d S1 S ∧ Ty pt wr w') := by
            show Calls _ _ _ _ _
            rw [hE, hS1]
            exact Tw.try n h6 (Stay.came HI.out h6.bel) (by omega) (by omega)
          have H2 : Hid (∀ W a' cp, Tw w (l.length + 1) l.length W c d S1 S → Stay w.heap.size W a' L.reverse → Calls Try.prog 13 #[.pointer (some ⟨d, 0, none⟩), .slice a' L.length cp, .int .i64 n] W fun e w' => e = .returned (.tuple #[.int .i64 (tryN S L.reverse n), .int .i64 E]) ∧ Tw w (l.length + 1) (l.length + 1) w' c d S1 S2) := by
            intro W a' cp h hst
            rw [hE, hS2, ← m1]
            have := Tw.try (cap := cp) n h.symm hst (by simp; omega) (by omega)
            rw [List.length_reverse] at this
            exact this.mono fun _ _ ⟨g1, g2, _⟩ => ⟨g1, g2.symm⟩
          have HU : Hid (∀ g, S2.u g = S1.u g) := fun g => by rw [hS1, hS2]; exact m2 g
          obtain ⟨n1, hn1⟩ : ∃ x, x = tryN S L n := ⟨_, rfl⟩
          obtain ⟨n2, hn2⟩ : ∃ x, x = tryN S L.reverse n := ⟨_, rfl⟩
          rw [← hn1] at H1
          rw [← hn2] at H2
          have zE : (E == E) = true := by simp
          clear m1 m2 hE hS1 hS2 hn1 hn2 HI
          go_wp2_with fail
          refine H1.out.mono ?_
          rintro e w5 ⟨rfl, h7, t7⟩
          have hrow7 := own_ty hrow t7 rfl
          obtain ⟨a', cp, hs11, hst⟩ := Stay.own (B := w.heap.size) hrow7
          rw [List.length_reverse] at hs11
          subst hs11
          have HST : Hid (Stay w.heap.size w5 a' L.reverse) := hst
          clear hrow7 hst hrow t7 h6 H1
          go_wp2_with fail
          refine (H2.out _ _ _ h7 HST.out).mono ?_
          rintro e w8 ⟨rfl, h8⟩
          clear h7 HST H2
          go_wp2_with fail
          go_loopw [17] (fun s17 wq => ∃ i : Nat, i ≤ 64 ∧ s17 = .int .i64 i ∧ Tw w (l.length + 1) (l.length + 1) wq c d S1 S2) (fun s17 _ => 64 - (intOf s17).toNat)
          case atStart => exact ⟨0, by omega, rfl, h8⟩
          case round =>
            clear h8
            obtain ⟨i, hi, rfl, h9⟩ := hrel
            by_cases hlt : i < 64
            · have hil : decide ((i : Int) < 64) = true := by simp; omega
              obtain ⟨x, hx⟩ : ∃ x, x = S1.u i := ⟨_, rfl⟩
              have G1 : Hid (∀ W, Tw w (l.length + 1) (l.length + 1) W c d S1 S2 → Calls Try.prog 19 #[.pointer (some ⟨c, 0, none⟩), .int .i64 i] W fun e w' => e = .returned (.int .i64 x) ∧ Tw w (l.length + 1) (l.length + 1) w' c d S1 S2) := fun W h => by
                rw [hx]
                exact Tw.use (i : Int) h
              have G2 : Hid (∀ W, Tw w (l.length + 1) (l.length + 1) W c d S1 S2 → Calls Try.prog 19 #[.pointer (some ⟨d, 0, none⟩), .int .i64 i] W fun e w' => e = .returned (.int .i64 x) ∧ Tw w (l.length + 1) (l.length + 1) w' c d S1 S2) := fun W h => by
                have := Tw.use (i : Int) h.symm
                rw [HU.out, ← hx] at this
                exact this.mono fun _ _ ⟨g1, g2⟩ => ⟨g1, g2.symm⟩
              have zx : (x != x) = false := by simp
              clear hx
              go_wp2_with fail
              refine (G1.out _ h9).mono ?_
              rintro e w10 ⟨rfl, h10⟩
              clear h9
              go_wp2_with fail
              refine (G2.out _ h10).mono ?_
              rintro e w11 ⟨rfl, h11⟩
              clear h10
              go_wp2_with fail
              exact ⟨⟨i + 1, by omega, by go_num, h11⟩, by simp [intOf]; omega⟩
            · obtain rfl : i = 64 := by omega
              have hil : decide (((64 : Nat) : Int) < 64) = false := by simp
              go_wp2_with fail
              go_ret
              exact ⟨rfl, h9.bel⟩

theorem any_walk (a : Option Addr) (cap : Nat) (l : List Ac) (q : Option Addr) (cap' : Nat) (L : List Int) (n : Int) (w : World) (hc : ActsAt w a l) (hI : Ints w q L) :
    Calls Try.prog 7 #[.slice a l.length cap, .slice q L.length cap', .int .i64 n] w fun e w' => e = .returned (.bool true) ∧ Below w.heap.size w w' := by
  cases hov : ov l with
  | true => exact any_out a cap l q cap' L n w hc (Or.inl hov)
  | false =>
    by_cases h : 80 < L.length
    · exact any_out a cap l q cap' L n w hc (Or.inr ⟨hov, h⟩)
    · exact any_in a cap l q cap' L n w hc hI hov (by omega)
end Go.Proofs.Ytpageadhmgoddaa
