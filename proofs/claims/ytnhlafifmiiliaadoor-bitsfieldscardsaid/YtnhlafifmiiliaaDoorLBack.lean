/-
  The law BitsBack, walked: for every input it answers true.
-/
import Derived.Test.YtnhlafifmiiliaaDoorSame
namespace Go.Proofs.YtnhlafifmiiliaaDoor
open Go.RowKit

/-! ### the arithmetic: what is packed is unpacked, what is unpacked is packed -/
theorem spanOk_tail {w : Int} {ws : List Int} (h : SpanOk (w :: ws)) : SpanOk ws := by
  intro k hk
  have := h (k + 1) (by simp; omega)
  have h0 := (h 0 (by simp)).1
  simp at this h0
  omega
theorem fit_tail {w v : Int} {ws vs : List Int} (h : Fit (w :: ws) (v :: vs)) : Fit ws vs := by
  intro k hk hk'
  have := h (k + 1) (by simp; omega) (by simp; omega)
  simpa using this

theorem unpack_pack : ∀ (ws vs : List Int), ws.length = vs.length → Fit ws vs → unpackVals ws (packVal ws vs) = vs
  | [], [], _, _ => rfl
  | [], _ :: _, h, _ => by simp at h
  | _ :: _, [], h, _ => by simp at h
  | w :: ws, v :: vs, h, hf => by
    have ih := unpack_pack ws vs (by simpa using h) (fit_tail hf)
    obtain ⟨h1, h2⟩ := hf 0 (by simp) (by simp)
    simp only [List.getElem_cons_zero] at h1 h2
    rw [← cast_pow] at h2
    have hp := pow_pos w.toNat
    simp only [unpackVals, packVal]
    rw [Nat.add_mul_mod_self_left, Nat.add_mul_div_left _ _ hp, Nat.mod_eq_of_lt (by omega), Nat.div_eq_of_lt (show v.toNat < 2 ^ w.toNat by omega), Nat.zero_add, ih, Int.toNat_of_nonneg h1]

theorem pack_unpack : ∀ (ws : List Int) (x : Nat), (∀ k (h : k < ws.length), 0 ≤ ws[k]) → x / 2 ^ ws.sum.toNat = 0 → packVal ws (unpackVals ws x) = x
  | [], x, _, h => by simp at h; simp [packVal, h]
  | w :: ws, x, hn, h => by
    have h0 : 0 ≤ w := hn 0 (by simp)
    have hn' : ∀ k (h : k < ws.length), 0 ≤ ws[k] := fun k hk => by have := hn (k + 1) (by simp; omega); simpa using this
    have h1 : 0 ≤ ws.sum := by
      have := sum_nonneg hn' ws.length (Nat.le_refl _)
      simpa using this
    rw [List.sum_cons, Int.toNat_add h0 h1, Nat.pow_add, ← Nat.div_div_eq_div_mul] at h
    have ih := pack_unpack ws (x / 2 ^ w.toNat) hn' h
    simp only [unpackVals, packVal]
    rw [ih, Int.toNat_natCast]
    have := Nat.div_add_mod x (2 ^ w.toNat)
    omega

theorem unpack_fit : ∀ (ws : List Int) (x : Nat), Fit ws (unpackVals ws x)
  | [], _ => fun k h _ => by simp at h
  | w :: ws, x => by
    intro k hk hk'
    cases k with
    | zero =>
      simp only [unpackVals, List.getElem_cons_zero]
      have := Nat.mod_lt x (pow_pos w.toNat)
      rw [← cast_pow]
      omega
    | succ k =>
      have := unpack_fit ws (x / 2 ^ w.toNat) k (by simpa using hk) (by simpa [unpackVals] using hk')
      simpa [unpackVals] using this

theorem fit_i64 {ws vs : List Int} (hs : SpanOk ws) (hlen : ws.length = vs.length) (hf : Fit ws vs) : I64s vs := by
  intro k hk
  obtain ⟨h1, h2⟩ := hf k (by omega) hk
  obtain ⟨g1, g2, -⟩ := hs k (by omega)
  have h3 : 2 ^ (ws[k]'(by omega)).toNat ≤ 2 ^ 62 := pow_le (by omega)
  rw [← cast_pow] at h2
  omega

theorem packVal_bound {ws vs : List Int} (hs : SpanOk ws) (hlen : ws.length = vs.length) (hf : Fit ws vs) : packVal ws vs / 2 ^ ws.sum.toNat = 0 ∧ packVal ws vs < 18446744073709551616 := by
  have h := packVal_lt ws vs hlen (fun k h => (hs k h).1) ws.length (Nat.le_refl _) (fun j h h' _ => hf j h h')
  have e : List.take ws.length vs = vs := by rw [hlen, List.take_length]
  rw [e, List.take_length] at h
  refine ⟨Nat.div_eq_of_lt h, ?_⟩
  have := (sum_le64 hs).2
  have h2 : 2 ^ ws.sum.toNat ≤ 2 ^ 64 := pow_le (by omega)
  omega

/-! ### one contract a call, for every input -/
theorem pack_no (a a' : Option Addr) (cap cap' : Nat) (ws vs : List Int) (w : World) (hl : ws.length ≤ 9223372036854775807)
    (hc : IntsAt w a ws) (hc' : IntsAt w a' vs) (hi : I64s vs) (h : ¬ (ws.length = vs.length ∧ SpanOk ws ∧ Fit ws vs)) :
    Calls Tryd.prog 23 #[.slice a ws.length cap, .slice a' vs.length cap'] w fun e w' => e = .returned (.tuple #[.int .u64 0, .int .i64 1]) ∧ w' = w := by
  by_cases h1 : ws.length = vs.length
  · by_cases h2 : SpanOk ws
    · exact pack_no_fit a a' cap cap' ws vs w hl h1 hc hc' hi h2 (fun h3 => h ⟨h1, h2, h3⟩)
    · exact pack_no_span a a' cap cap' ws vs w hl h1 hc h2
  · exact pack_no_len a a' cap cap' _ _ w h1
theorem unpack_no (a : Option Addr) (cap : Nat) (ws : List Int) (x : Nat) (w : World) (hl : ws.length ≤ 9223372036854775807) (hc : IntsAt w a ws) (h : ¬ (SpanOk ws ∧ x / 2 ^ ws.sum.toNat = 0)) :
    Calls Tryd.prog 25 #[.slice a ws.length cap, .int .u64 x] w fun e w' => e = .returned (.tuple #[.slice none 0 0, .int .i64 1]) ∧ w' = w := by
  by_cases h2 : SpanOk ws
  · exact unpack_no_high a cap ws x w hl hc h2 (fun h3 => h ⟨h2, h3⟩)
  · exact unpack_no_span a cap ws x w hl hc h2

/-! ### the law -/
set_option maxHeartbeats 1000000 in
theorem back_long (a a' : Option Addr) (cap cap' n m : Nat) (x : Nat) (w : World) (hT : Tab w) (hn : n ≤ 9223372036854775807) (hm : m ≤ 9223372036854775807) (h : 100 < n ∨ 100 < m) :
    Calls Tryd.prog 6 #[.slice a n cap, .slice a' m cap', .int .u64 x] w fun e w' => e = .returned (.bool true) ∧ Below w.heap.size w w' := by
  by_cases h1 : 100 < n
  · go_enter Tryd.func6, Tryd.ntmps6
    go_wp2_with (go_at_call 11; refine (works_any _ hT).mono ?_; rintro e w1 ⟨rfl, hb⟩)
    go_ret
    exact ⟨rfl, hb⟩
  · have h2 : 100 < m := by omega
    clear h
    go_enter Tryd.func6, Tryd.ntmps6
    go_wp2_with (go_at_call 11; refine (works_any _ hT).mono ?_; rintro e w1 ⟨rfl, hb⟩)
    go_ret
    exact ⟨rfl, hb⟩

/-- A contract that takes the other slice's length as it is spelt. -/
theorem pack_len (a a' : Option Addr) (cap cap' n m : Nat) (ws vs : List Int) (w : World) (hn : n = ws.length) (hm : m = vs.length) (hl : ws.length ≤ 9223372036854775807) (hlen : ws.length = vs.length)
    (hc : IntsAt w a ws) (hc' : IntsAt w a' vs) (hi : I64s vs) (hs : SpanOk ws) (hf : Fit ws vs) :
    Calls Tryd.prog 23 #[.slice a n cap, .slice a' m cap'] w fun e w' => e = .returned (.tuple #[.int .u64 (packVal ws vs), .int .i64 0]) ∧ w' = w := by
  subst hn; subst hm
  exact pack_yes a a' cap cap' ws vs w hl hlen hc hc' hi hs hf

/-- The law's second half, from whatever world the first half left. -/
theorem unpack_round (a : Option Addr) (cap : Nat) (ws : List Int) (x : Nat) (w : World) (hn : ws.length ≤ 100) (hc : IntsAt w a ws) (hx : x < 18446744073709551616) (h : SpanOk ws ∧ x / 2 ^ ws.sum.toNat = 0) :
    Calls Tryd.prog 25 #[.slice a ws.length cap, .int .u64 x] w fun e w' => e = .returned (.tuple #[.slice (some ⟨w.heap.size, 0, none⟩) ws.length ws.length, .int .i64 0]) ∧ IntsAt w' (some ⟨w.heap.size, 0, none⟩) (unpackVals ws x) ∧ IntsAt w' a ws ∧ Below w.heap.size w w' := by
  refine (unpack_yes a cap ws x w (by omega) hc h.1 hx h.2).mono ?_
  rintro e w' ⟨rfl, h1, h2⟩
  exact ⟨rfl, h1, hc.below h2, h2⟩

set_option maxHeartbeats 2000000 in
theorem back_short (a a' : Option Addr) (cap cap' : Nat) (ws vs : List Int) (x : Nat) (w : World) (hT : Tab w) (hx : x < 18446744073709551616) (hn : ws.length ≤ 100) (hm : vs.length ≤ 100)
    (hc : IntsAt w a ws) (hc' : IntsAt w a' vs) (hi : I64s vs) :
    Calls Tryd.prog 6 #[.slice a ws.length cap, .slice a' vs.length cap', .int .u64 x] w fun e w' => e = .returned (.bool true) ∧ Below w.heap.size w w' := by
  have hp := hT.pos
  have hd1 : decide ((100 : Int) < (ws.length : Int)) = false := by simp; omega
  have hd2 : decide ((100 : Int) < (vs.length : Int)) = false := by simp; omega
  have hXX : (((x : Int)) == (x : Int)) = true := by simp
  by_cases hQ : SpanOk ws ∧ x / 2 ^ ws.sum.toNat = 0
  · have HP2 : Hid (packVal ws (unpackVals ws x) = x) := pack_unpack ws x (fun k h => (hQ.1 k h).1) hQ.2
    have hpu : ∀ (u : Option Addr) (w : World), IntsAt w a ws → IntsAt w u (unpackVals ws x) →
        Calls Tryd.prog 23 #[.slice a ws.length cap, .slice u ws.length ws.length] w fun e w' => e = .returned (.tuple #[.int .u64 (x : Int), .int .i64 0]) ∧ w' = w := fun u w h1 h2 => by
      have := pack_len a u cap ws.length ws.length ws.length ws (unpackVals ws x) w rfl (unpack_len ws x).symm (by omega) (unpack_len ws x).symm h1 h2 (fit_i64 hQ.1 (unpack_len ws x).symm (unpack_fit ws x)) hQ.1 (unpack_fit ws x)
      rw [HP2.out] at this
      exact this
    have HPU := (show Hid _ from hpu)
    have HU : Hid (∀ w, IntsAt w a ws → Calls Tryd.prog 25 #[.slice a ws.length cap, .int .u64 x] w fun e w' => e = .returned (.tuple #[.slice (some ⟨w.heap.size, 0, none⟩) ws.length ws.length, .int .i64 0]) ∧ IntsAt w' (some ⟨w.heap.size, 0, none⟩) (unpackVals ws x) ∧ IntsAt w' a ws ∧ Below w.heap.size w w') :=
      fun w hc => unpack_round a cap ws x w hn hc hx hQ
    clear hpu HP2
    by_cases hP : ws.length = vs.length ∧ SpanOk ws ∧ Fit ws vs
    · obtain ⟨p1, p2, p3⟩ := hP
      have hub := packVal_bound p2 p1 p3
      obtain ⟨y, hy⟩ : ∃ y, y = packVal ws vs := ⟨_, rfl⟩
      have HK : Hid (∀ w, IntsAt w a ws → IntsAt w a' vs → Calls Tryd.prog 23 #[.slice a ws.length cap, .slice a' vs.length cap'] w fun e w' => e = .returned (.tuple #[.int .u64 (y : Int), .int .i64 0]) ∧ w' = w) :=
        fun w h1 h2 => by rw [hy]; exact pack_yes a a' cap cap' ws vs w (by omega) p1 h1 h2 hi p2 p3
      have HV : Hid (∀ w, IntsAt w a ws → Calls Tryd.prog 25 #[.slice a ws.length cap, .int .u64 y] w fun e w' => e = .returned (.tuple #[.slice (some ⟨w.heap.size, 0, none⟩) ws.length ws.length, .int .i64 0]) ∧ IntsAt w' (some ⟨w.heap.size, 0, none⟩) vs ∧ IntsAt w' a ws ∧ Below w.heap.size w w') :=
        fun w hc => by
          rw [hy]
          have := unpack_round a cap ws (packVal ws vs) w hn hc hub.2 ⟨p2, hub.1⟩
          rw [unpack_pack ws vs p1 p3] at this
          exact this
      have HL : Hid (ws.length = vs.length) := p1
      clear hy hub p1 p2 p3 hQ
      go_enter Tryd.func6, Tryd.ntmps6
      go_wp2_with fail
      refine (works_any _ hT).mono ?_
      rintro e w1 ⟨rfl, hb⟩
      have hc1 := hc.below hb
      have hc1' := hc'.below hb
      clear hc hc' hT
      go_wp2_with fail
      refine (HK.out _ hc1 hc1').mono ?_
      rintro e w1 ⟨rfl, rfl⟩
      go_wp2_with fail
      refine (HV.out _ hc1).mono ?_
      rintro e w2 ⟨rfl, hv2, hc2, hb2⟩
      have hc2' := hc1'.below hb2
      have hB2 := hb.trans (hb2.mono hb.size)
      clear hb hb2 hc1 hc1'
      go_wp2_with fail
      refine (same_len _ _ _ _ _ _ vs _ HL.out rfl (by omega) hv2 hc2').mono ?_
      rintro e w3 ⟨rfl, nq, rfl⟩
      clear hv2 hc2'
      go_wp2_with fail
      refine (HU.out _ (hc2.drewN nq)).mono ?_
      rintro e w4 ⟨rfl, hv4, hc4, hb4⟩
      have hB4 := (below_drawn hB2 nq).trans (hb4.mono hB2.size)
      clear hc2 hB2 hb4
      go_wp2_with fail
      refine (HPU.out _ _ hc4 hv4).mono ?_
      rintro e w5 ⟨rfl, rfl⟩
      go_wp2_with fail
      go_ret
      exact ⟨rfl, hB4⟩
    · have HK : Hid (∀ w, IntsAt w a ws → IntsAt w a' vs → Calls Tryd.prog 23 #[.slice a ws.length cap, .slice a' vs.length cap'] w fun e w' => e = .returned (.tuple #[.int .u64 0, .int .i64 1]) ∧ w' = w) :=
        fun w h1 h2 => pack_no a a' cap cap' ws vs w (by omega) h1 h2 hi hP
      clear hP hQ
      go_enter Tryd.func6, Tryd.ntmps6
      go_wp2_with fail
      refine (works_any _ hT).mono ?_
      rintro e w1 ⟨rfl, hb⟩
      have hc1 := hc.below hb
      have hc1' := hc'.below hb
      clear hc hc' hT
      go_wp2_with fail
      refine (HK.out _ hc1 hc1').mono ?_
      rintro e w1 ⟨rfl, rfl⟩
      go_wp2_with fail
      refine (HU.out _ hc1).mono ?_
      rintro e w4 ⟨rfl, hv4, hc4, hb4⟩
      have hB4 := hb.trans (hb4.mono hb.size)
      clear hc1 hb hb4
      go_wp2_with fail
      refine (HPU.out _ _ hc4 hv4).mono ?_
      rintro e w5 ⟨rfl, rfl⟩
      go_wp2_with fail
      go_ret
      exact ⟨rfl, hB4⟩
  · have HU : Hid (∀ w, IntsAt w a ws → Calls Tryd.prog 25 #[.slice a ws.length cap, .int .u64 x] w fun e w' => e = .returned (.tuple #[.slice none 0 0, .int .i64 1]) ∧ w' = w) :=
      fun w hc => unpack_no a cap ws x w (by omega) hc hQ
    by_cases hP : ws.length = vs.length ∧ SpanOk ws ∧ Fit ws vs
    · obtain ⟨p1, p2, p3⟩ := hP
      have hub := packVal_bound p2 p1 p3
      obtain ⟨y, hy⟩ : ∃ y, y = packVal ws vs := ⟨_, rfl⟩
      have HK : Hid (∀ w, IntsAt w a ws → IntsAt w a' vs → Calls Tryd.prog 23 #[.slice a ws.length cap, .slice a' vs.length cap'] w fun e w' => e = .returned (.tuple #[.int .u64 (y : Int), .int .i64 0]) ∧ w' = w) :=
        fun w h1 h2 => by rw [hy]; exact pack_yes a a' cap cap' ws vs w (by omega) p1 h1 h2 hi p2 p3
      have HV : Hid (∀ w, IntsAt w a ws → Calls Tryd.prog 25 #[.slice a ws.length cap, .int .u64 y] w fun e w' => e = .returned (.tuple #[.slice (some ⟨w.heap.size, 0, none⟩) ws.length ws.length, .int .i64 0]) ∧ IntsAt w' (some ⟨w.heap.size, 0, none⟩) vs ∧ IntsAt w' a ws ∧ Below w.heap.size w w') :=
        fun w hc => by
          rw [hy]
          have := unpack_round a cap ws (packVal ws vs) w hn hc hub.2 ⟨p2, hub.1⟩
          rw [unpack_pack ws vs p1 p3] at this
          exact this
      have HL : Hid (ws.length = vs.length) := p1
      clear hy hub p1 p2 p3 hQ
      go_enter Tryd.func6, Tryd.ntmps6
      go_wp2_with fail
      refine (works_any _ hT).mono ?_
      rintro e w1 ⟨rfl, hb⟩
      have hc1 := hc.below hb
      have hc1' := hc'.below hb
      clear hc hc' hT
      go_wp2_with fail
      refine (HK.out _ hc1 hc1').mono ?_
      rintro e w1 ⟨rfl, rfl⟩
      go_wp2_with fail
      refine (HV.out _ hc1).mono ?_
      rintro e w2 ⟨rfl, hv2, hc2, hb2⟩
      have hc2' := hc1'.below hb2
      have hB2 := hb.trans (hb2.mono hb.size)
      clear hb hb2 hc1 hc1'
      go_wp2_with fail
      refine (same_len _ _ _ _ _ _ vs _ HL.out rfl (by omega) hv2 hc2').mono ?_
      rintro e w3 ⟨rfl, nq, rfl⟩
      clear hv2 hc2'
      go_wp2_with fail
      refine (HU.out _ (hc2.drewN nq)).mono ?_
      rintro e w4 ⟨rfl, rfl⟩
      go_wp2_with fail
      go_ret
      exact ⟨rfl, below_drawn hB2 nq⟩
    · have HK : Hid (∀ w, IntsAt w a ws → IntsAt w a' vs → Calls Tryd.prog 23 #[.slice a ws.length cap, .slice a' vs.length cap'] w fun e w' => e = .returned (.tuple #[.int .u64 0, .int .i64 1]) ∧ w' = w) :=
        fun w h1 h2 => pack_no a a' cap cap' ws vs w (by omega) h1 h2 hi hP
      clear hP hQ
      go_enter Tryd.func6, Tryd.ntmps6
      go_wp2_with fail
      refine (works_any _ hT).mono ?_
      rintro e w1 ⟨rfl, hb⟩
      have hc1 := hc.below hb
      have hc1' := hc'.below hb
      clear hc hc' hT
      go_wp2_with fail
      refine (HK.out _ hc1 hc1').mono ?_
      rintro e w1 ⟨rfl, rfl⟩
      go_wp2_with fail
      refine (HU.out _ hc1).mono ?_
      rintro e w4 ⟨rfl, rfl⟩
      go_wp2_with fail
      go_ret
      exact ⟨rfl, hb⟩

theorem back_walk (a0 : Option Addr) (cap0 : Nat) (l0 : List Int) (a1 : Option Addr) (cap1 : Nat) (l1 : List Int) (x2 : Int) (w : World) (hT : Tab w)
    (t0 : IntsAt w a0 l0) (_ : I64s l0) (n0 : l0.length * 8 ≤ 140737488351232) (_ : a0 = none → cap0 = 0) (t1 : IntsAt w a1 l1) (i1 : I64s l1) (n1 : l1.length * 8 ≤ 140737488351232) (_ : a1 = none → cap1 = 0) (w2 : 0 ≤ x2 ∧ x2 ≤ 18446744073709551615) :
    Calls Tryd.prog 6 #[.slice a0 l0.length cap0, .slice a1 l1.length cap1, .int .u64 x2] w fun e w' => e = .returned (.bool true) ∧ Below w.heap.size w w' := by
  obtain ⟨x, rfl⟩ := Int.eq_ofNat_of_zero_le w2.1
  by_cases h : 100 < l0.length ∨ 100 < l1.length
  · exact back_long a0 a1 cap0 cap1 _ _ x w hT (by omega) (by omega) h
  · exact back_short a0 a1 cap0 cap1 l0 l1 x w hT (by omega) (by omega) (by omega) t0 t1 i1

end Go.Proofs.YtnhlafifmiiliaaDoor
