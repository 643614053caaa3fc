/-
  The contracts of behind (by sort.Search and its closure), of both Pages.
-/
import Derived.Test.YtagobeoabkbhaaaP4
namespace Go.Proofs.Ytagobeoabkbhaaa
open Go.RowKit

theorem pclos (bl bp : Nat) (a : Option Addr) (cap : Nat) (L : List Rg) (p : Int) (i : Nat) (w : World) (h : Regs w a cap L) (hi : i < L.length) (c0 : w.cell? ⟨bl, 0, none⟩ = some (.slice a L.length cap)) (c1 : w.cell? ⟨bp, 0, none⟩ = some (.int .i64 p)) :
    Calls Try.prog 31 #[.int .i64 i, .pointer (some ⟨bl, 0, none⟩), .pointer (some ⟨bp, 0, none⟩)] w fun e w' => e = .returned (.bool (decide (p < L[i].t))) ∧ Below w.heap.size w w' := by
  obtain ⟨b, off, rfl, -, d1, -⟩ := h.get hi
  obtain ⟨t, ht⟩ : ∃ t, t = L[i].t := ⟨_, rfl⟩
  rw [← ht] at d1 ⊢
  clear ht h
  go_enter Try.func31, Try.ntmps31
  go_wp2
  go_quiet (fail)
  go_wp2
  go_ret
  exact ⟨rfl, below_drawn (Below.refl _ _) _⟩

set_option maxHeartbeats 4000000 in
theorem psearch (bl bp : Nat) (a : Option Addr) (cap : Nat) (L : List Rg) (p : Int) (w : World) (h : Regs w a cap L) (hL : L.length ≤ 1000) (hR : RL L) (c0 : w.cell? ⟨bl, 0, none⟩ = some (.slice a L.length cap)) (c1 : w.cell? ⟨bp, 0, none⟩ = some (.int .i64 p)) :
    Calls Try.prog 30 #[.int .i64 L.length, .func (.func 31) #[] #[.pointer (some ⟨bl, 0, none⟩), .pointer (some ⟨bp, 0, none⟩)]] w fun e w' => e = .returned (.int .i64 (bh L p)) ∧ Below w.heap.size w w' := by
  go_enter Try.func30, Try.ntmps30
  go_wp2
  go_loopw [5, 6] (fun s5 s6 wr => ∃ i j : Nat, i ≤ j ∧ j ≤ L.length ∧ s5 = .int .i64 i ∧ s6 = .int .i64 j ∧ (∀ k (h : k < L.length), k < i → L[k].t ≤ p) ∧ (∀ k (h : k < L.length), j ≤ k → p < L[k].t) ∧ Below w.heap.size w wr) (fun s5 s6 _ => (intOf s6 - intOf s5).toNat)
  case atStart => exact ⟨0, L.length, by omega, by omega, rfl, rfl, fun k _ hk => by omega, fun k hk hk2 => by omega, Below.refl _ _⟩
  case round =>
    obtain ⟨i, j, hij, hj, rfl, rfl, h1, h2, hb⟩ := hrel
    have H1 : Hid (∀ k (h : k < L.length), k < i → L[k].t ≤ p) := h1
    have H2 : Hid (∀ k (h : k < L.length), j ≤ k → p < L[k].t) := h2
    clear h1 h2
    have HR : Hid (RL L) := hR
    clear hR
    by_cases hlt : i < j
    · obtain ⟨m, hm⟩ : ∃ m, m = (i + j) / 2 := ⟨_, rfl⟩
      have hm1 : i ≤ m := by omega
      have hm2 : m < j := by omega
      have hml : m < L.length := by omega
      have hmi : ((i : Int) + (j : Int)) / 2 = (m : Int) := by omega
      clear hm
      have hr := h.later hb
      have k0 := cell_later hb c0
      have k1 := cell_later hb c1
      go_wp2_with fail
      refine (pclos bl bp a cap L p m _ hr hml k0 k1).mono ?_
      rintro e w2 ⟨rfl, hb2⟩
      have hB := bel_trans hb hb2
      have H3 : Hid (∀ k (h : k < L.length), m < k → L[m].t ≤ L[k].f) := fun k hk hmk => HR.out.lt hk hmk
      have H4 : Hid (∀ k (h : k < L.length), L[k].f < L[k].t) := fun k hk => (HR.out.vd hk).2.1
      have H5 : Hid (∀ k (h : k < L.length), k < m → L[k].t ≤ L[m].f) := fun k _ hmk => HR.out.lt hml hmk
      by_cases hp : p < L[m].t
      · have hd : decide (p < L[m].t) = true := by simp; omega
        rw [hd]
        have HP : Hid (p < L[m].t) := hp
        clear hp hd hb2 hb hr k0 k1 c0 c1 h
        go_wp2
        refine ⟨⟨i, m, by omega, by omega, rfl, rfl, H1.out, fun k hk hmk => ?_, hB⟩, by simp [intOf]; omega⟩
        rcases Nat.lt_or_eq_of_le hmk with hq | hq
        · have := H3.out k hk hq
          have := H4.out k hk
          have := HP.out
          omega
        · subst hq
          exact HP.out
      · have hd : decide (p < L[m].t) = false := by simp; omega
        rw [hd]
        have HP : Hid (¬ p < L[m].t) := hp
        clear hp hd hb2 hb hr k0 k1 c0 c1 h
        go_wp2
        refine ⟨⟨m + 1, j, by omega, by omega, by go_num, rfl, fun k hk hmk => ?_, H2.out, hB⟩, by simp [intOf]; omega⟩
        rcases Nat.lt_or_eq_of_le (Nat.le_of_lt_succ hmk) with hq | hq
        · have := H5.out k hk hq
          have := H4.out m hml
          have := HP.out
          omega
        · subst hq
          have := HP.out
          omega
    · have HQ : Hid (bh L p = i) := bh_uniq (by omega) H1.out (fun h => H2.out i h (by omega))
      go_wp2
      go_ret
      exact ⟨by rw [HQ.out]; rfl, hb⟩

theorem pbehind (a : Option Addr) (cap : Nat) (L : List Rg) (p : Int) (w : World) (h : Regs w a cap L) (hL : L.length ≤ 1000) (hR : RL L) :
    Calls Try.prog 26 #[.slice a L.length cap, .int .i64 p] w fun e w' => e = .returned (.int .i64 (bh L p)) ∧ Below w.heap.size w w' := by
  have hb1 : Below w.heap.size w ((w.alloc (.cells #[.slice a L.length cap] 22)).alloc (.cells #[.int .i64 p] 3)) := bel_trans (below_alloc _ _) (below_alloc _ _)
  have r0 : RowAt ((w.alloc (.cells #[.slice a L.length cap] 22)).alloc (.cells #[.int .i64 p] 3)) w.heap.size 22 [.slice a L.length cap] := (RowAt.new w _ 22).alloc _
  have r1 : RowAt ((w.alloc (.cells #[.slice a L.length cap] 22)).alloc (.cells #[.int .i64 p] 3)) (w.heap.size + 1) 3 [.int .i64 p] := by
    have := RowAt.new (w.alloc (.cells #[.slice a L.length cap] 22)) #[.int .i64 p] 3
    simpa using this
  have HS : Hid (Calls Try.prog 30 #[.int .i64 L.length, .func (.func 31) #[] #[.pointer (some ⟨w.heap.size, 0, none⟩), .pointer (some ⟨w.heap.size + 1, 0, none⟩)]] ((w.alloc (.cells #[.slice a L.length cap] 22)).alloc (.cells #[.int .i64 p] 3)) fun e w' => e = .returned (.int .i64 (bh L p)) ∧ Below w.heap.size w w') := by
    refine (psearch w.heap.size (w.heap.size + 1) a cap L p _ (h.later hb1) hL hR (by rw [r0.cell]; rfl) (by rw [r1.cell]; rfl)).mono ?_
    rintro e w' ⟨rfl, hb2⟩
    exact ⟨rfl, bel_trans hb1 hb2⟩
  clear hb1 r0 r1 h hR
  go_enter Try.func26, Try.ntmps26
  go_wp2_with fail
  refine HS.out.mono ?_
  rintro e w' ⟨rfl, hb2⟩
  go_wp2
  go_ret
  exact ⟨rfl, hb2⟩

set_option maxHeartbeats 4000000 in
theorem ppages (a : Option Addr) (cap : Nat) (L : List Rg) (w : World) (h : Regs w a cap L) (hL : L.length ≤ 1000) :
    Calls Try.prog 20 #[.slice a L.length cap] w fun e w' => e = .returned (.int .i64 (pgR L)) ∧ Below w.heap.size w w' := by
  have HR1 : Hid (∀ w, Regs w a cap L → Calls Try.prog 19 #[.slice a L.length cap] w fun e w' => e = .returned (.bool (rt 0 L)) ∧ Below w.heap.size w w') := fun w h => pright a cap L w h (by omega)
  cases hq : rt 0 L with
  | false =>
    have HV : Hid (pgR L = 0) := by show _ = _; unfold pgR; rw [hq]; rfl
    rw [hq] at HR1
    clear hq
    go_enter Try.func20, Try.ntmps20
    go_wp2_with fail
    refine (HR1.out _ h).mono ?_
    rintro e w1 ⟨rfl, hb⟩
    go_wp2
    go_ret
    exact ⟨by rw [HV.out]; rfl, hb⟩
  | true =>
    have HV : Hid (pgR L = pgs L) := by show _ = _; unfold pgR; rw [hq]; rfl
    have HR : Hid (RL L) := (rt_iff L).1 hq
    rw [hq] at HR1
    clear hq
    go_enter Try.func20, Try.ntmps20
    go_wp2_with fail
    refine (HR1.out _ h).mono ?_
    rintro e w1 ⟨rfl, hb1⟩
    go_wp2
    go_loopw [3, 11] (fun s3 s11 wr => ∃ (j : Nat), j ≤ L.length ∧ s3 = .int .i64 (pgs (L.take j)) ∧ s11 = .int .i64 j ∧ Below w.heap.size w wr) (fun _ s11 _ => L.length - (intOf s11).toNat)
    case atStart => exact ⟨0, by omega, rfl, rfl, hb1⟩
    case round =>
      obtain ⟨j, hj, rfl, rfl, hb⟩ := hrel
      have hr := h.later hb
      clear h hb1
      by_cases hjl : j < L.length
      · obtain ⟨b, off, rfl, c0, c1, c2, c3, c4, c5⟩ := hr.get hjl
        obtain ⟨n1, n2⟩ := pgs_bound HR.out j hj
        have hs := pgs_take L j hjl
        have hv := HR.out.vd hjl
        obtain ⟨x, hx⟩ : ∃ x, x = L[j] := ⟨_, rfl⟩
        rw [← hx] at hv hs c0 c1 c2 c3 c4 c5
        obtain ⟨N, hN⟩ : ∃ N, N = pgs (L.take j) := ⟨_, rfl⟩
        rw [← hN] at n1 n2 hs ⊢
        obtain ⟨M, hM⟩ : ∃ M, M = x.t - x.f := ⟨_, rfl⟩
        rw [← hM] at hs
        have HS : Hid (pgs (L.take (j + 1)) = N + M) := hs
        have HC : Hid (∀ w, Calls Try.prog 27 #[rv x] w fun e w' => e = .returned (.int .i64 M) ∧ Below w.heap.size w w') := by
          intro w
          have := ppages1 x w hv
          rw [← hM] at this
          exact this
        have m1 : 0 ≤ M ∧ M ≤ 65536 := by have := hv.1; have := hv.2.1; have := hv.2.2.1; omega
        obtain ⟨m1, m2⟩ := m1
        clear hs hx hN hM hv hr
        obtain ⟨w2, hw2, hr2, hB2, -⟩ := boxOn w wr x hb
        go_wp2_with fail
        rw [← hw2]
        clear hw2 c0 c1 c2 c3 c4 c5
        refine (HC.out _).mono ?_
        rintro e w3 ⟨rfl, hb3⟩
        have hB3 := bel_trans hB2 hb3
        clear hB2 hb3 hr2
        go_wp2
        exact ⟨⟨j + 1, by omega, by rw [HS.out], by go_num, hB3⟩, by simp [intOf]; omega⟩
      · have HE : Hid (pgs (L.take j) = pgs L) := by show _ = _; rw [List.take_of_length_le (by omega)]
        clear hr
        go_wp2
        go_ret
        exact ⟨by rw [HV.out, ← HE.out]; rfl, hb⟩
end Go.Proofs.Ytagobeoabkbhaaa
