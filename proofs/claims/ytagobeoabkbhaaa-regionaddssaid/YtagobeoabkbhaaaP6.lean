/-
  The contracts of the document's Pages and Same; two regions, two keys compared.
-/
import Derived.Test.YtagobeoabkbhaaaP5
namespace Go.Proofs.Ytagobeoabkbhaaa
open Go.RowKit

set_option maxHeartbeats 4000000 in
theorem rpages (a : Option Addr) (cap : Nat) (L : List Rg) (w : World) (h : Regs w a cap L) (hL : L.length ≤ 1000) :
    Calls Try.prog 21 #[.slice a L.length cap] w fun e w' => e = .returned (.int .i64 (pgR L)) ∧ Below w.heap.size w w' := by
  have HR1 : Hid (∀ w, Regs w a cap L → Calls Try.prog 16 #[.slice a L.length cap] w fun e w' => e = .returned (.bool (rt 0 L)) ∧ Below w.heap.size w w') := fun w h => rright a cap L w h (by omega)
  cases hq : rt 0 L with
  | false =>
    have HV : Hid (pgR L = 0) := by show _ = _; unfold pgR; rw [hq]; rfl
    rw [hq] at HR1
    by_cases h0 : L.length = 0
    · have : L = [] := List.eq_nil_of_length_eq_zero h0
      rw [this] at hq
      cases hq
    clear hq
    have hd : decide (0 < L.length) = true := by simp; omega
    go_enter Try.func21, Try.ntmps21
    go_wp2_with fail
    go_loopw [3, 4] (fun s3 s4 wr => s3 = .int .i64 0 ∧ s4 = .int .i64 0 ∧ Below w.heap.size w wr) (fun _ _ _ => 0)
    case atStart => exact ⟨rfl, rfl, Below.refl _ _⟩
    case round =>
      obtain ⟨rfl, rfl, hb⟩ := hrel
      have hr := h.later hb
      go_wp2_with fail
      refine (HR1.out _ hr).mono ?_
      rintro e w1 ⟨rfl, hb1⟩
      go_wp2
      go_ret
      exact ⟨by rw [HV.out]; rfl, bel_trans hb hb1⟩
  | true =>
    have HV : Hid (pgR L = pgs L) := by show _ = _; unfold pgR; rw [hq]; rfl
    have HR : Hid (RL L) := (rt_iff L).1 hq
    rw [hq] at HR1
    clear hq
    go_enter Try.func21, Try.ntmps21
    go_wp2_with fail
    go_loopw [3, 4] (fun s3 s4 wr => ∃ (j : Nat), j ≤ L.length ∧ s3 = .int .i64 (pgs (L.take j)) ∧ s4 = .int .i64 j ∧ Below w.heap.size w wr) (fun _ s4 _ => L.length - (intOf s4).toNat)
    case atStart => exact ⟨0, by omega, rfl, rfl, Below.refl _ _⟩
    case round =>
      obtain ⟨j, hj, rfl, rfl, hb⟩ := hrel
      have hr := h.later hb
      clear h
      by_cases hjl : j < L.length
      · obtain ⟨n1, n2⟩ := pgs_bound HR.out j hj
        have hs := pgs_take L j hjl
        have hv := HR.out.vd hjl
        obtain ⟨N, hN⟩ : ∃ N, N = pgs (L.take j) := ⟨_, rfl⟩
        rw [← hN] at n1 n2 hs ⊢
        have hd : decide (j < L.length) = true := by simp; omega
        go_wp2_with fail
        refine (HR1.out _ hr).mono ?_
        rintro e w1 ⟨rfl, hb1⟩
        have hB1 := bel_trans hb hb1
        have hr1 := hr.later hb1
        clear hr hb hb1
        obtain ⟨b, off, rfl, c0, c1, -⟩ := hr1.get hjl
        obtain ⟨x, hx⟩ : ∃ x, x = L[j] := ⟨_, rfl⟩
        rw [← hx] at hv hs c0 c1
        have HS : Hid (pgs (L.take (j + 1)) = N + x.t - x.f) := by show _ = _; rw [hs]; omega
        have m1 : 0 ≤ x.f ∧ x.f < x.t ∧ x.t ≤ 65536 := ⟨hv.1, hv.2.1, hv.2.2.1⟩
        obtain ⟨m1, m2, m3⟩ := m1
        have e1 : IntKind.i64.wrap (N + x.t) = N + x.t := by rw [IntKind.wrap_i64]; omega
        have e2 : IntKind.i64.wrap (N + x.t - x.f) = N + x.t - x.f := by rw [IntKind.wrap_i64]; omega
        clear hs hx hN hv hr1
        go_wp2
        go_quiet (fail)
        go_wp2
        exact ⟨⟨j + 1, by omega, by rw [HS.out], by go_num, below_drawn hB1 _⟩, by simp [intOf]; omega⟩
      · have HE : Hid (pgs (L.take j) = pgs L) := by show _ = _; rw [List.take_of_length_le (by omega)]
        have hd : decide (j < L.length) = false := by simp; omega
        clear hr
        go_wp2
        go_ret
        exact ⟨by rw [HV.out, ← HE.out]; rfl, hb⟩

/-! ### compared -/
theorem guard25 : Try.prog.eqGuardType Try.prog.depth 25 = false := by kernel_rfl
theorem fields25 : Try.prog.fieldsOf 25 = #[{ name := "From", type := 3, offset := 0, embedded := false, tag := "", pkgPath := "", byteOffset := 0 }, { name := "To", type := 3, offset := 1, embedded := false, tag := "", pkgPath := "", byteOffset := 8 }, { name := "Kind", type := 23, offset := 2, embedded := false, tag := "", pkgPath := "", byteOffset := 16 }, { name := "File", type := 3, offset := 3, embedded := false, tag := "", pkgPath := "", byteOffset := 24 }, { name := "Index", type := 3, offset := 4, embedded := false, tag := "", pkgPath := "", byteOffset := 32 }, { name := "Write", type := 4, offset := 5, embedded := false, tag := "", pkgPath := "", byteOffset := 40 }] := by kernel_rfl
theorem stood25 : Try.prog.stoodInHeld 25 = false := by kernel_rfl
theorem plain23 : Try.prog.plainKey 23 = true := by kernel_rfl
theorem plain4 : Try.prog.plainKey 4 = true := by kernel_rfl
theorem eq25 (x y : Rg) (w : World) : (Op.equalIn 10000 25 (rv x) (rv y)).run Try.prog w = .ok (eqR x y) w := by
  obtain ⟨f, t, k, fi, ix, wr⟩ := x
  obtain ⟨f', t', k', fi', ix', wr'⟩ := y
  show (Op.equalIn 10000 25 (.agg #[.int .i64 f, .int .i64 t, .int .i64 k, .int .i64 fi, .int .i64 ix, .bool wr]) (.agg #[.int .i64 f', .int .i64 t', .int .i64 k', .int .i64 fi', .int .i64 ix', .bool wr'])).run Try.prog w = .ok (f == f' && (t == t' && (k == k' && (fi == fi' && (ix == ix' && wr == wr'))))) w
  have p0 := run_part_plain (P := Try.prog) w plain3 (xs := #[.int .i64 f, .int .i64 t, .int .i64 k, .int .i64 fi, .int .i64 ix, .bool wr]) (off := 0) (v := .int .i64 f) rfl
  have p1 := run_part_plain (P := Try.prog) w plain3 (xs := #[.int .i64 f, .int .i64 t, .int .i64 k, .int .i64 fi, .int .i64 ix, .bool wr]) (off := 1) (v := .int .i64 t) rfl
  have p2 := run_part_plain (P := Try.prog) w plain23 (xs := #[.int .i64 f, .int .i64 t, .int .i64 k, .int .i64 fi, .int .i64 ix, .bool wr]) (off := 2) (v := .int .i64 k) rfl
  have p3 := run_part_plain (P := Try.prog) w plain3 (xs := #[.int .i64 f, .int .i64 t, .int .i64 k, .int .i64 fi, .int .i64 ix, .bool wr]) (off := 3) (v := .int .i64 fi) rfl
  have p4 := run_part_plain (P := Try.prog) w plain3 (xs := #[.int .i64 f, .int .i64 t, .int .i64 k, .int .i64 fi, .int .i64 ix, .bool wr]) (off := 4) (v := .int .i64 ix) rfl
  have p5 := run_part_plain (P := Try.prog) w plain4 (xs := #[.int .i64 f, .int .i64 t, .int .i64 k, .int .i64 fi, .int .i64 ix, .bool wr]) (off := 5) (v := .bool wr) rfl
  have q0 := run_part_plain (P := Try.prog) w plain3 (xs := #[.int .i64 f', .int .i64 t', .int .i64 k', .int .i64 fi', .int .i64 ix', .bool wr']) (off := 0) (v := .int .i64 f') rfl
  have q1 := run_part_plain (P := Try.prog) w plain3 (xs := #[.int .i64 f', .int .i64 t', .int .i64 k', .int .i64 fi', .int .i64 ix', .bool wr']) (off := 1) (v := .int .i64 t') rfl
  have q2 := run_part_plain (P := Try.prog) w plain23 (xs := #[.int .i64 f', .int .i64 t', .int .i64 k', .int .i64 fi', .int .i64 ix', .bool wr']) (off := 2) (v := .int .i64 k') rfl
  have q3 := run_part_plain (P := Try.prog) w plain3 (xs := #[.int .i64 f', .int .i64 t', .int .i64 k', .int .i64 fi', .int .i64 ix', .bool wr']) (off := 3) (v := .int .i64 fi') rfl
  have q4 := run_part_plain (P := Try.prog) w plain3 (xs := #[.int .i64 f', .int .i64 t', .int .i64 k', .int .i64 fi', .int .i64 ix', .bool wr']) (off := 4) (v := .int .i64 ix') rfl
  have q5 := run_part_plain (P := Try.prog) w plain4 (xs := #[.int .i64 f', .int .i64 t', .int .i64 k', .int .i64 fi', .int .i64 ix', .bool wr']) (off := 5) (v := .bool wr') rfl
  have r0 : (Op.equalIn 9999 3 (.int .i64 f) (.int .i64 f')).run Try.prog w = .ok (f == f') w := run_equalIn_int (P := Try.prog) w 9998 3 .i64 .i64 f f' Try.underlying3
  have r1 : (Op.equalIn 9999 3 (.int .i64 t) (.int .i64 t')).run Try.prog w = .ok (t == t') w := run_equalIn_int (P := Try.prog) w 9998 3 .i64 .i64 t t' Try.underlying3
  have r2 : (Op.equalIn 9999 23 (.int .i64 k) (.int .i64 k')).run Try.prog w = .ok (k == k') w := run_equalIn_int (P := Try.prog) w 9998 23 .i64 .i64 k k' Try.underlying23
  have r3 : (Op.equalIn 9999 3 (.int .i64 fi) (.int .i64 fi')).run Try.prog w = .ok (fi == fi') w := run_equalIn_int (P := Try.prog) w 9998 3 .i64 .i64 fi fi' Try.underlying3
  have r4 : (Op.equalIn 9999 3 (.int .i64 ix) (.int .i64 ix')).run Try.prog w = .ok (ix == ix') w := run_equalIn_int (P := Try.prog) w 9998 3 .i64 .i64 ix ix' Try.underlying3
  have r5 : (Op.equalIn 9999 4 (.bool wr) (.bool wr')).run Try.prog w = .ok (wr == wr') w := run_equalIn_bool' (P := Try.prog) w 9998 4 wr wr' Try.underlying4
  rw [run_equalIn_agg (P := Try.prog) w 9999 25 _ _ under25 stood25, fields25]
  cases h0 : (f == f') <;> rw [h0] at r0
  · simp [Op.eqFields, p0, q0, r0]
  cases h1 : (t == t') <;> rw [h1] at r1
  · simp [Op.eqFields, p0, q0, r0, p1, q1, r1]
  cases h2 : (k == k') <;> rw [h2] at r2
  · simp [Op.eqFields, p0, q0, r0, p1, q1, r1, p2, q2, r2]
  cases h3 : (fi == fi') <;> rw [h3] at r3
  · simp [Op.eqFields, p0, q0, r0, p1, q1, r1, p2, q2, r2, p3, q3, r3]
  cases h4 : (ix == ix') <;> rw [h4] at r4
  · simp [Op.eqFields, p0, q0, r0, p1, q1, r1, p2, q2, r2, p3, q3, r3, p4, q4, r4]
  cases h5 : (wr == wr') <;> rw [h5] at r5
  · simp [Op.eqFields, p0, q0, r0, p1, q1, r1, p2, q2, r2, p3, q3, r3, p4, q4, r4, p5, q5, r5]
  · simp [Op.eqFields, p0, q0, r0, p1, q1, r1, p2, q2, r2, p3, q3, r3, p4, q4, r4, p5, q5, r5]
theorem guard37 : Try.prog.eqGuardType Try.prog.depth 37 = false := by kernel_rfl
theorem fields37 : Try.prog.fieldsOf 37 = #[{ name := "File", type := 3, offset := 0, embedded := false, tag := "", pkgPath := "", byteOffset := 0 }, { name := "Index", type := 3, offset := 1, embedded := false, tag := "", pkgPath := "", byteOffset := 8 }] := by kernel_rfl
theorem stood37 : Try.prog.stoodInHeld 37 = false := by kernel_rfl
theorem eq37 (f i g j : Int) (w : World) : (Op.equalIn 10000 37 (.agg #[.int .i64 f, .int .i64 i]) (.agg #[.int .i64 g, .int .i64 j])).run Try.prog w = .ok (f == g && i == j) w := by
  have p0 := run_part_plain (P := Try.prog) w plain3 (xs := #[.int .i64 f, .int .i64 i]) (off := 0) (v := .int .i64 f) rfl
  have p1 := run_part_plain (P := Try.prog) w plain3 (xs := #[.int .i64 f, .int .i64 i]) (off := 1) (v := .int .i64 i) rfl
  have q0 := run_part_plain (P := Try.prog) w plain3 (xs := #[.int .i64 g, .int .i64 j]) (off := 0) (v := .int .i64 g) rfl
  have q1 := run_part_plain (P := Try.prog) w plain3 (xs := #[.int .i64 g, .int .i64 j]) (off := 1) (v := .int .i64 j) rfl
  have r0 : (Op.equalIn 9999 3 (.int .i64 f) (.int .i64 g)).run Try.prog w = .ok (f == g) w := run_equalIn_int (P := Try.prog) w 9998 3 .i64 .i64 f g Try.underlying3
  have r1 : (Op.equalIn 9999 3 (.int .i64 i) (.int .i64 j)).run Try.prog w = .ok (i == j) w := run_equalIn_int (P := Try.prog) w 9998 3 .i64 .i64 i j Try.underlying3
  rw [run_equalIn_agg (P := Try.prog) w 9999 37 _ _ under37 stood37, fields37]
  cases hfg : (f == g) <;> cases hij : (i == j) <;> rw [hfg] at r0 <;> rw [hij] at r1 <;> simp [Op.eqFields, p0, p1, q0, q1, r0, r1]

theorem same_drop (A B : List Rg) (j : Nat) (h1 : j < A.length) (h2 : j < B.length) : sameL (A.drop j) (B.drop j) = (eqR A[j] B[j] && sameL (A.drop (j + 1)) (B.drop (j + 1))) := by
  rw [List.drop_eq_getElem_cons h1, List.drop_eq_getElem_cons h2]
  rfl
theorem same_len {A B : List Rg} (h : A.length ≠ B.length) : sameL A B = false := by
  cases hq : sameL A B with
  | false => rfl
  | true => exact absurd (congrArg List.length ((sameL_iff A B).1 hq)) h

set_option maxHeartbeats 4000000 in
theorem rsame (a b : Option Addr) (ca cb : Nat) (A B : List Rg) (w : World) (ha : Regs w a ca A) (hb' : Regs w b cb B) (hA : A.length ≤ 1000) :
    Calls Try.prog 15 #[.slice a A.length ca, .slice b B.length cb] w fun e w' => e = .returned (.bool (sameL A B)) ∧ Below w.heap.size w w' := by
  by_cases hlen : A.length = B.length
  · obtain ⟨V, hV⟩ : ∃ V, V = sameL A B := ⟨_, rfl⟩
    have HV : Hid (V = sameL (A.drop 0) (B.drop 0)) := hV
    rw [← hV]
    clear hV
    obtain ⟨n, hn⟩ : ∃ n, n = A.length := ⟨_, rfl⟩
    have hnB : B.length = n := by omega
    have hnA : A.length = n := hn.symm
    rw [hnA, hnB]
    rw [hnA] at hA
    have HA : Hid (A.length = n) := hnA
    have HB : Hid (B.length = n) := hnB
    clear hn hnB hnA hlen
    have qn : ((n : Int) != (n : Int)) = false := by simp
    have hgt := guard25
    go_enter Try.func15, Try.ntmps15
    go_wp2
    go_loopw [5] (fun s5 wr => ∃ (j : Nat), j ≤ n ∧ s5 = .int .i64 j ∧ V = sameL (A.drop j) (B.drop j) ∧ Below w.heap.size w wr) (fun s5 _ => n - (intOf s5).toNat)
    case atStart => exact ⟨0, by omega, rfl, HV.out, Below.refl _ _⟩
    case round =>
      obtain ⟨j, hj, rfl, hv, hbw⟩ := hrel
      have hr1 := ha.later hbw
      have hr2 := hb'.later hbw
      clear ha hb' HV
      by_cases hjl : j < n
      · have j1 : j < A.length := by rw [HA.out]; exact hjl
        have j2 : j < B.length := by rw [HB.out]; exact hjl
        rw [same_drop A B j j1 j2] at hv
        obtain ⟨g, off, rfl, c0, c1, c2, c3, c4, c5⟩ := hr1.get j1
        obtain ⟨g', off', rfl, d0, d1, d2, d3, d4, d5⟩ := hr2.get j2
        obtain ⟨x, hx⟩ : ∃ x, x = A[j] := ⟨_, rfl⟩
        obtain ⟨y, hy⟩ : ∃ y, y = B[j] := ⟨_, rfl⟩
        rw [← hx] at hv c0 c1 c2 c3 c4 c5
        rw [← hy] at hv d0 d1 d2 d3 d4 d5
        have hqq := fun w => eq25 x y w
        cases hq : eqR x y with
        | true =>
          rw [hq] at hqq hv
          have HF : Hid (V = sameL (A.drop (j + 1)) (B.drop (j + 1))) := hv
          clear hq hv hx hy hr1 hr2 j1 j2
          go_wp2
          go_quiet (fail)
          go_wp2
          exact ⟨⟨j + 1, by omega, by go_num, HF.out, below_drawn hbw _⟩, by simp [intOf]; omega⟩
        | false =>
          rw [hq] at hqq hv
          have HF : Hid (V = false) := hv
          clear hq hv hx hy hr1 hr2 j1 j2
          go_wp2
          go_quiet (fail)
          go_wp2
          go_ret
          exact ⟨by rw [HF.out]; rfl, below_drawn hbw _⟩
      · have HF : Hid (V = true) := by
          show _ = _
          rw [hv, List.drop_of_length_le (by rw [HA.out]; omega), List.drop_of_length_le (by rw [HB.out]; omega)]
          rfl
        clear hv hr1 hr2
        go_wp2
        go_ret
        exact ⟨by rw [HF.out]; rfl, hbw⟩
  · have HF : Hid (sameL A B = false) := same_len hlen
    have qn : ((A.length : Int) != (B.length : Int)) = true := by simp; omega
    go_enter Try.func15, Try.ntmps15
    go_wp2
    go_ret
    exact ⟨by rw [HF.out]; rfl, Below.refl _ _⟩
end Go.Proofs.Ytagobeoabkbhaaa
