/-
  Plain arithmetic behind the statements on package bits: powers of two, the wraps of uint64, what digits make. No program is named here.
-/
import Derived.WalkKit
import Derived.WalkSpells
namespace Go.Proofs.Ytgnobaenlcbfjaa
open Go.RowKit
theorem pow_le {a b : Nat} (h : a ≤ b) : 2 ^ a ≤ 2 ^ b := Nat.pow_le_pow_right (by decide) h
theorem pow_pos (a : Nat) : 0 < 2 ^ a := Nat.two_pow_pos a
theorem cast_pow (n : Nat) : ((2 ^ n : Nat) : Int) = (2 : Int) ^ n := by simp

theorem ones_val (a : Int) (h0 : 0 ≤ a) (h1 : a ≤ 63) : IntKind.u64.wrap (IntKind.u64.wrap (2 ^ a.toNat) - 1) = 2 ^ a.toNat - 1 := by
  obtain ⟨n, rfl⟩ := Int.eq_ofNat_of_zero_le h0
  simp only [Int.toNat_natCast]
  have h2 : (2 : Nat) ^ n ≤ 2 ^ 63 := pow_le (by omega)
  have h3 := pow_pos n
  rw [← cast_pow]
  simp only [IntKind.wrap_u64]
  generalize 2 ^ n = p at *
  omega

/-- A slice of ints that reads as l: its elements' cells. -/
def IntsAt (w : World) (a : Option Addr) (l : List Int) : Prop :=
  ∀ i, i < l.length → ∃ b off, a = some ⟨b, off, none⟩ ∧ w.cell? ⟨b, off + i, none⟩ = some (.int .i64 (l.getD i 0))
/-- Each is an int of Go's. -/
def I64s (l : List Int) : Prop := ∀ i (h : i < l.length), -9223372036854775808 ≤ l[i] ∧ l[i] ≤ 9223372036854775807

/-- May fields be so wide? -/
def SpanOk (l : List Int) : Prop := ∀ k (h : k < l.length), 0 ≤ l[k] ∧ l[k] ≤ 62 ∧ (l.take k).sum + l[k] ≤ 64

theorem sum_take_succ (l : List Int) (k : Nat) (h : k < l.length) : (l.take (k + 1)).sum = (l.take k).sum + l[k] := by
  rw [List.take_succ_eq_append_getElem h, List.sum_append]; simp only [List.sum_cons, List.sum_nil, Int.add_zero]

theorem sum_nonneg {l : List Int} (h : ∀ k (_ : k < l.length), 0 ≤ l[k]) : ∀ k, k ≤ l.length → 0 ≤ (l.take k).sum := by
  intro k
  induction k with
  | zero => simp
  | succ k ih =>
    intro hk
    rw [sum_take_succ l k (by omega)]
    have := ih (by omega)
    have := h k (by omega)
    omega

/-! ### what digits make -/
def joinStep (n : Nat) (x : Nat) (d : Int) : Nat := (x * 2 ^ n + (d % (2 ^ n : Nat)).toNat) % 18446744073709551616
def joinVal (n : Nat) (l : List Int) : Nat := l.foldl (joinStep n) 0

theorem joinStep_lt (n x : Nat) (d : Int) : joinStep n x d < 18446744073709551616 := Nat.mod_lt _ (by decide)
theorem foldl_join_lt (n : Nat) (l : List Int) : ∀ x, x < 18446744073709551616 → l.foldl (joinStep n) x < 18446744073709551616 := by
  induction l with
  | nil => intro x h; exact h
  | cons d r ih => intro x _; exact ih _ (joinStep_lt n x d)
theorem joinVal_lt (n : Nat) (l : List Int) : joinVal n l < 18446744073709551616 := foldl_join_lt n l 0 (by decide)
theorem joinVal_take (n : Nat) (l : List Int) (k : Nat) (h : k < l.length) : joinVal n (l.take (k + 1)) = joinStep n (joinVal n (l.take k)) l[k] := by
  unfold joinVal
  rw [List.take_succ_eq_append_getElem h, List.foldl_append]; rfl
theorem joinVal_snoc (n : Nat) (l : List Int) (d : Int) : joinVal n (l ++ [d]) = joinStep n (joinVal n l) d := by
  unfold joinVal
  rw [List.foldl_append]; rfl
theorem joinVal_noughts (n : Nat) (l : List Int) : joinVal n ([0, 0] ++ l) = joinVal n l := by
  unfold joinVal
  simp [joinStep]

theorem pow_dvd64 {m : Nat} (h : m ≤ 64) : 2 ^ m * 2 ^ (64 - m) = 18446744073709551616 := by
  rw [← Nat.pow_add, show m + (64 - m) = 64 from by omega]

theorem mod_mod_pow (D m : Nat) (h : m ≤ 64) : D % 18446744073709551616 % 2 ^ m = D % 2 ^ m := by
  rw [← pow_dvd64 h, Nat.mod_mul_right_mod]

theorem emod_toNat (d : Int) (m : Nat) (h : m ≤ 64) : (d % 18446744073709551616).toNat % 2 ^ m = (d % (2 ^ m : Nat)).toNat := by
  have h1 : 0 ≤ d % 18446744073709551616 := Int.emod_nonneg _ (by decide)
  have h2 : 0 ≤ d % (2 ^ m : Nat) := Int.emod_nonneg _ (by have := pow_pos m; omega)
  apply Int.ofNat.inj
  show (((d % 18446744073709551616).toNat % 2 ^ m : Nat) : Int) = ((d % (2 ^ m : Nat)).toNat : Int)
  rw [Int.natCast_emod, Int.toNat_of_nonneg h1, Int.toNat_of_nonneg h2]
  apply Int.emod_emod_of_dvd
  exact ⟨((2 ^ (64 - m) : Nat) : Int), by rw [← Int.natCast_mul, pow_dvd64 h]; rfl⟩

theorem and_ones (D m : Nat) (h : m ≤ 63) (hD : D < 18446744073709551616) : bits .and .u64 (D : Int) (2 ^ m - 1) = ((D % 2 ^ m : Nat) : Int) := by
  have h2 : 2 ^ m ≤ 2 ^ 63 := pow_le h
  have h3 := pow_pos m
  have e : ((2 : Int) ^ m - 1) = ((2 ^ m - 1 : Nat) : Int) := by rw [← cast_pow]; omega
  rw [e, bits_and_u64_nat D _ hD (by omega), Nat.and_two_pow_sub_one_eq_mod]

theorem join_step_val (x : Nat) (d wd : Int) (h0 : 0 ≤ wd) (h1 : wd ≤ 63) :
    bits BinOp.or IntKind.u64 (IntKind.u64.wrap (↑x * 2 ^ wd.toNat)) (bits BinOp.and IntKind.u64 (IntKind.u64.wrap d) (2 ^ wd.toNat - 1)) = (joinStep wd.toNat x d : Int) := by
  obtain ⟨m, rfl⟩ := Int.eq_ofNat_of_zero_le h0
  simp only [Int.toNat_natCast]
  have hm : m ≤ 63 := by omega
  have h3 := pow_pos m
  have e1 : IntKind.u64.wrap d = ((d % 18446744073709551616).toNat : Int) := by
    rw [IntKind.wrap_u64, Int.toNat_of_nonneg (Int.emod_nonneg _ (by decide))]
  have hD : (d % 18446744073709551616).toNat < 18446744073709551616 := by omega
  rw [e1, and_ones _ m hm hD, emod_toNat d m (by omega)]
  have e2 : IntKind.u64.wrap (↑x * 2 ^ m) = ((x * 2 ^ m % 18446744073709551616 : Nat) : Int) := by
    rw [IntKind.wrap_u64, ← cast_pow]; omega
  have hB : (d % (2 ^ m : Nat)).toNat < 2 ^ m := by
    have := Int.emod_lt_of_pos d (b := ((2 ^ m : Nat) : Int)) (by omega)
    have := Int.emod_nonneg d (b := ((2 ^ m : Nat) : Int)) (by omega)
    omega
  have h2 : 2 ^ m ≤ 2 ^ 63 := pow_le hm
  rw [e2, bits_or_u64_nat _ _ (Nat.mod_lt _ (by decide)) (by omega)]
  have hA : x * 2 ^ m % 18446744073709551616 % 2 ^ m = 0 := by rw [mod_mod_pow _ _ (by omega)]; simp
  rw [nat_join m _ _ hA hB]
  unfold joinStep
  have hq : x * 2 ^ m % 18446744073709551616 + 2 ^ m ≤ 18446744073709551616 := by
    have hlt : x * 2 ^ m % 18446744073709551616 < 18446744073709551616 := Nat.mod_lt _ (by decide)
    obtain ⟨q, hq⟩ := Nat.dvd_of_mod_eq_zero hA
    have hp := pow_dvd64 (m := m) (by omega)
    rw [hq] at hlt ⊢
    rw [← hp] at hlt ⊢
    have : q < 2 ^ (64 - m) := Nat.lt_of_mul_lt_mul_left hlt
    calc 2 ^ m * q + 2 ^ m = 2 ^ m * (q + 1) := by rw [Nat.mul_add, Nat.mul_one]
      _ ≤ 2 ^ m * 2 ^ (64 - m) := Nat.mul_le_mul_left _ this
  generalize x * 2 ^ m = A at *
  omega

/-! ### fields side by side -/
def packVal : List Int → List Int → Nat
  | w :: ws, v :: vs => v.toNat + 2 ^ w.toNat * packVal ws vs
  | _, _ => 0
/-- Each value fits its width. -/
def Fit (ws vs : List Int) : Prop := ∀ k (h : k < ws.length) (h' : k < vs.length), 0 ≤ vs[k] ∧ vs[k] ≤ 2 ^ ws[k].toNat - 1

theorem packVal_snoc : ∀ (ws vs : List Int) (w v : Int), ws.length = vs.length → (∀ k (h : k < ws.length), 0 ≤ ws[k]) →
    packVal (ws ++ [w]) (vs ++ [v]) = packVal ws vs + v.toNat * 2 ^ ws.sum.toNat
  | [], [], w, v, _, _ => by simp [packVal]
  | [], _ :: _, _, _, h, _ => by simp at h
  | _ :: _, [], _, _, h, _ => by simp at h
  | a :: ws, b :: vs, w, v, h, hn => by
    have ih := packVal_snoc ws vs w v (by simpa using h) (fun k hk => by have := hn (k + 1) (by simp; omega); simpa using this)
    have h0 : 0 ≤ a := hn 0 (by simp)
    have h1 : 0 ≤ ws.sum := by
      have := sum_nonneg (l := ws) (fun k hk => by have := hn (k + 1) (by simp; omega); simpa using this) ws.length (Nat.le_refl _)
      simpa using this
    simp only [List.cons_append, packVal, List.sum_cons]
    rw [ih, Int.toNat_add h0 h1, Nat.pow_add, Nat.mul_add]
    rw [Nat.add_assoc, Nat.mul_left_comm]

theorem take_snoc {α} (l : List α) (k : Nat) (h : k < l.length) : l.take (k + 1) = l.take k ++ [l[k]] := List.take_succ_eq_append_getElem h

theorem packVal_take (ws vs : List Int) (k : Nat) (h : k < ws.length) (h' : k < vs.length) (hn : ∀ k (h : k < ws.length), 0 ≤ ws[k]) :
    packVal (ws.take (k + 1)) (vs.take (k + 1)) = packVal (ws.take k) (vs.take k) + vs[k].toNat * 2 ^ (ws.take k).sum.toNat := by
  rw [take_snoc ws k h, take_snoc vs k h', packVal_snoc]
  · simp; omega
  · intro j hj
    have hj' : j < ws.length := by simp at hj; omega
    simpa using hn j hj'

theorem pow_mul_lt {v p s w : Nat} (hv : v < 2 ^ w) (hp : p < 2 ^ s) : p + v * 2 ^ s < 2 ^ (s + w) := by
  calc p + v * 2 ^ s < 2 ^ s + v * 2 ^ s := by omega
    _ = (v + 1) * 2 ^ s := by rw [Nat.add_mul, Nat.one_mul, Nat.add_comm]
    _ ≤ 2 ^ w * 2 ^ s := Nat.mul_le_mul_right _ hv
    _ = 2 ^ (s + w) := by rw [Nat.pow_add, Nat.mul_comm]

theorem packVal_lt (ws vs : List Int) (hlen : ws.length = vs.length) (hn : ∀ k (h : k < ws.length), 0 ≤ ws[k]) :
    ∀ k, k ≤ ws.length → (∀ j (h : j < ws.length) (h' : j < vs.length), j < k → 0 ≤ vs[j] ∧ vs[j] ≤ 2 ^ ws[j].toNat - 1) → packVal (ws.take k) (vs.take k) < 2 ^ (ws.take k).sum.toNat := by
  intro k
  induction k with
  | zero => intro _ _; simp [packVal]
  | succ k ih =>
    intro hk hf
    have hlt : k < ws.length := by omega
    have hlt' : k < vs.length := by omega
    rw [packVal_take ws vs k hlt hlt' hn, sum_take_succ ws k hlt, Int.toNat_add (sum_nonneg hn k (by omega)) (hn k hlt)]
    obtain ⟨h1, h2⟩ := hf k hlt hlt' (by omega)
    apply pow_mul_lt _ (ih (by omega) (fun j h h' hj => hf j h h' (by omega)))
    rw [← cast_pow] at h2
    omega

theorem pack_step_val (ws vs : List Int) (k : Nat) (h : k < ws.length) (h' : k < vs.length) (hn : ∀ k (h : k < ws.length), 0 ≤ ws[k]) (hlen : ws.length = vs.length)
    (hf : ∀ j (h : j < ws.length) (h' : j < vs.length), j < k + 1 → 0 ≤ vs[j] ∧ vs[j] ≤ 2 ^ ws[j].toNat - 1) (hs : (ws.take k).sum + ws[k] ≤ 64) :
    bits BinOp.or IntKind.u64 (packVal (ws.take k) (vs.take k) : Int) (IntKind.u64.wrap (vs[k] * 2 ^ (ws.take k).sum.toNat)) = (packVal (ws.take (k + 1)) (vs.take (k + 1)) : Int) := by
  have hp := packVal_lt ws vs hlen hn k (by omega) (fun j h h' hj => hf j h h' (by omega))
  have hp1 := packVal_lt ws vs hlen hn (k + 1) (by omega) hf
  have h64 : 2 ^ (ws.take (k + 1)).sum.toNat ≤ 2 ^ 64 := pow_le (by rw [sum_take_succ ws k h]; omega)
  have hsk := sum_nonneg hn k (by omega)
  have e := packVal_take ws vs k h h' hn
  rw [e] at hp1 ⊢
  obtain ⟨h1, -⟩ := hf k h h' (by omega)
  have h64' : 2 ^ (ws.take k).sum.toNat ≤ 2 ^ 64 := pow_le (by have := hn k h; omega)
  have e1 : IntKind.u64.wrap (vs[k] * 2 ^ (ws.take k).sum.toNat) = ((vs[k].toNat * 2 ^ (ws.take k).sum.toNat : Nat) : Int) := by
    rw [IntKind.wrap_u64, ← cast_pow]
    have : vs[k] = (vs[k].toNat : Int) := by omega
    rw [this, ← Int.natCast_mul, Int.toNat_natCast]
    generalize vs[k].toNat * 2 ^ (ws.take k).sum.toNat = A at *
    omega
  rw [e1, bits_or_u64_nat _ _ (by omega) (by omega), Nat.or_comm, nat_join (ws.take k).sum.toNat _ _ (by simp) hp]
  omega


end Go.Proofs.Ytgnobaenlcbfjaa
