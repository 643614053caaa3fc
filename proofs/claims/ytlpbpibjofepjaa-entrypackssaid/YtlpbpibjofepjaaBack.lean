/-
  The law BitsBack, walked: for every input it answers true.
-/
import Derived.Test.YtlpbpibjofepjaaW7
namespace Go.Proofs.Ytlpbpibjofepjaa
open Go.RowKit
/-! ### the arithmetic: what is packed is unpacked, what is unpacked is packed -/
theorem spanOk_tail {w : Int} {ws : List Int} (h : SpanOk (w :: ws)) : SpanOk ws := by
  intro k hk
  have := h (k + 1) (by simp; omega)
  have h0 := (h 0 (by simp)).1
  simp at this h0
  omega
theorem fit_tail {w v : Int} {ws vs : List Int} (h : Fit (w :: ws) (v :: vs)) : Fit ws vs := by
  intro k hk hk'
  have := h (k + 1) (by simp; omega) (by simp; omega)
  simpa using this

theorem unpack_pack : ∀ (ws vs : List Int), ws.length = vs.length → Fit ws vs → unpackVals ws (packVal ws vs) = vs
  | [], [], _, _ => rfl
  | [], _ :: _, h, _ => by simp at h
  | _ :: _, [], h, _ => by simp at h
  | w :: ws, v :: vs, h, hf => by
    have ih := unpack_pack ws vs (by simpa using h) (fit_tail hf)
    obtain ⟨h1, h2⟩ := hf 0 (by simp) (by simp)
    simp only [List.getElem_cons_zero] at h1 h2
    rw [← cast_pow] at h2
    have hp := pow_pos w.toNat
    simp only [unpackVals, packVal]
    rw [Nat.add_mul_mod_self_left, Nat.add_mul_div_left _ _ hp, Nat.mod_eq_of_lt (by omega), Nat.div_eq_of_lt (show v.toNat < 2 ^ w.toNat by omega), Nat.zero_add, ih, Int.toNat_of_nonneg h1]

theorem pack_unpack : ∀ (ws : List Int) (x : Nat), (∀ k (h : k < ws.length), 0 ≤ ws[k]) → x / 2 ^ ws.sum.toNat = 0 → packVal ws (unpackVals ws x) = x
  | [], x, _, h => by simp at h; simp [packVal, h]
  | w :: ws, x, hn, h => by
    have h0 : 0 ≤ w := hn 0 (by simp)
    have hn' : ∀ k (h : k < ws.length), 0 ≤ ws[k] := fun k hk => by have := hn (k + 1) (by simp; omega); simpa using this
    have h1 : 0 ≤ ws.sum := by
      have := sum_nonneg hn' ws.length (Nat.le_refl _)
      simpa using this
    rw [List.sum_cons, Int.toNat_add h0 h1, Nat.pow_add, ← Nat.div_div_eq_div_mul] at h
    have ih := pack_unpack ws (x / 2 ^ w.toNat) hn' h
    simp only [unpackVals, packVal]
    rw [ih, Int.toNat_natCast]
    have := Nat.div_add_mod x (2 ^ w.toNat)
    omega

theorem unpack_fit : ∀ (ws : List Int) (x : Nat), Fit ws (unpackVals ws x)
  | [], _ => fun k h _ => by simp at h
  | w :: ws, x => by
    intro k hk hk'
    cases k with
    | zero =>
      simp only [unpackVals, List.getElem_cons_zero]
      have := Nat.mod_lt x (pow_pos w.toNat)
      rw [← cast_pow]
      omega
    | succ k =>
      have := unpack_fit ws (x / 2 ^ w.toNat) k (by simpa using hk) (by simpa [unpackVals] using hk')
      simpa [unpackVals] using this

theorem fit_i64 {ws vs : List Int} (hs : SpanOk ws) (hlen : ws.length = vs.length) (hf : Fit ws vs) : I64s vs := by
  intro k hk
  obtain ⟨h1, h2⟩ := hf k (by omega) hk
  obtain ⟨g1, g2, -⟩ := hs k (by omega)
  have h3 : 2 ^ (ws[k]'(by omega)).toNat ≤ 2 ^ 62 := pow_le (by omega)
  rw [← cast_pow] at h2
  omega

theorem packVal_bound {ws vs : List Int} (hs : SpanOk ws) (hlen : ws.length = vs.length) (hf : Fit ws vs) : packVal ws vs / 2 ^ ws.sum.toNat = 0 ∧ packVal ws vs < 18446744073709551616 := by
  have h := packVal_lt ws vs hlen (fun k h => (hs k h).1) ws.length (Nat.le_refl _) (fun j h h' _ => hf j h h')
  have e : List.take ws.length vs = vs := by rw [hlen, List.take_length]
  rw [e, List.take_length] at h
  refine ⟨Nat.div_eq_of_lt h, ?_⟩
  have := (sum_le64 hs).2
  have h2 : 2 ^ ws.sum.toNat ≤ 2 ^ 64 := pow_le (by omega)
  omega

/-! ### one contract a call, for every input -/
theorem pack_no (a a' : Option Addr) (cap cap' : Nat) (ws vs : List Int) (w : World) (hl : ws.length ≤ 9223372036854775807)
    (hc : IntsAt w a ws) (hc' : IntsAt w a' vs) (hi : I64s vs) (h : ¬ (ws.length = vs.length ∧ SpanOk ws ∧ Fit ws vs)) :
    Calls Try.prog 21 #[.slice a ws.length cap, .slice a' vs.length cap'] w fun e w' => e = .returned (.tuple #[.int .u64 0, .int .i64 1]) ∧ w' = w := by
  by_cases h1 : ws.length = vs.length
  · by_cases h2 : SpanOk ws
    · exact pack_no_fit a a' cap cap' ws vs w hl h1 hc hc' hi h2 (fun h3 => h ⟨h1, h2, h3⟩)
    · exact pack_no_span a a' cap cap' ws vs w hl h1 hc h2
  · exact pack_no_len a a' cap cap' _ _ w h1
theorem unpack_no (a : Option Addr) (cap : Nat) (ws : List Int) (x : Nat) (w : World) (hl : ws.length ≤ 9223372036854775807) (hc : IntsAt w a ws) (h : ¬ (SpanOk ws ∧ x / 2 ^ ws.sum.toNat = 0)) :
    Calls Try.prog 26 #[.slice a ws.length cap, .int .u64 x] w fun e w' => e = .returned (.tuple #[.slice none 0 0, .int .i64 1]) ∧ w' = w := by
  by_cases h2 : SpanOk ws
  · exact unpack_no_high a cap ws x w hl hc h2 (fun h3 => h ⟨h2, h3⟩)
  · exact unpack_no_span a cap ws x w hl hc h2

/-- A contract that takes the other slice's length as it is spelt. -/
theorem pack_len (a a' : Option Addr) (cap cap' n m : Nat) (ws vs : List Int) (w : World) (hn : n = ws.length) (hm : m = vs.length) (hl : ws.length ≤ 9223372036854775807) (hlen : ws.length = vs.length)
    (hc : IntsAt w a ws) (hc' : IntsAt w a' vs) (hi : I64s vs) (hs : SpanOk ws) (hf : Fit ws vs) :
    Calls Try.prog 21 #[.slice a n cap, .slice a' m cap'] w fun e w' => e = .returned (.tuple #[.int .u64 (packVal ws vs), .int .i64 0]) ∧ w' = w := by
  subst hn; subst hm
  exact pack_yes a a' cap cap' ws vs w hl hlen hc hc' hi hs hf

/-- The law's second half, from whatever world the first half left. -/
theorem unpack_round (a : Option Addr) (cap : Nat) (ws : List Int) (x : Nat) (w : World) (hn : ws.length ≤ 100) (hc : IntsAt w a ws) (hx : x < 18446744073709551616) (h : SpanOk ws ∧ x / 2 ^ ws.sum.toNat = 0) :
    Calls Try.prog 26 #[.slice a ws.length cap, .int .u64 x] w fun e w' => e = .returned (.tuple #[.slice (some ⟨w.heap.size, 0, none⟩) ws.length ws.length, .int .i64 0]) ∧ IntsAt w' (some ⟨w.heap.size, 0, none⟩) (unpackVals ws x) ∧ IntsAt w' a ws ∧ Below w.heap.size w w' := by
  refine (unpack_yes a cap ws x w (by omega) hc h.1 hx h.2).mono ?_
  rintro e w' ⟨rfl, h1, h2⟩
  exact ⟨rfl, h1, hc.below h2, h2⟩


end Go.Proofs.Ytlpbpibjofepjaa
