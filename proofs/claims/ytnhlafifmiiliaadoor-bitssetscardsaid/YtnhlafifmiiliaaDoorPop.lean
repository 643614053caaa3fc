/-
  The arithmetic behind counting a word's ones byte by byte (what math/bits.OnesCount64 reckons). No program is named here.
-/
import Derived.Test.YtnhlafifmiiliaaDoorMath
namespace Go.Proofs.YtnhlafifmiiliaaDoor

theorem and_byte (b c y z : Nat) (hb : b < 256) (hc : c < 256) : (b + 256 * y) &&& (c + 256 * z) = (b &&& c) + 256 * (y &&& z) := by
  apply Nat.eq_of_testBit_eq
  intro i
  have hbc : b &&& c < 2 ^ 8 := Nat.and_lt_two_pow b hc
  have e1 : b + 256 * y = 2 ^ 8 * y + b := by omega
  have e2 : c + 256 * z = 2 ^ 8 * z + c := by omega
  have e3 : (b &&& c) + 256 * (y &&& z) = 2 ^ 8 * (y &&& z) + (b &&& c) := by omega
  rw [e1, e2, e3, Nat.testBit_and, Nat.testBit_two_pow_mul_add _ hb, Nat.testBit_two_pow_mul_add _ hc, Nat.testBit_two_pow_mul_add _ hbc]
  split <;> simp

def mk (m : Nat) : Nat → Nat
  | 0 => 0
  | k + 1 => m + 256 * mk m k

def stepA (k x : Nat) : Nat := (x / 2 &&& mk 85 k) + (x &&& mk 85 k)
def stepB (k x : Nat) : Nat := (x / 4 &&& mk 51 k) + (x &&& mk 51 k)
def stepC (k x : Nat) : Nat := (x / 16 + x) &&& mk 15 k

/-- How many of the k lowest bits are on. -/
def pop : Nat → Nat → Nat
  | 0, _ => 0
  | k + 1, x => x % 2 + pop k (x / 2)

def p8 (b : Nat) : Nat := (b / 2 &&& 85) + (b &&& 85)
def q8 (p : Nat) : Nat := (p / 4 &&& 51) + (p &&& 51)

theorem byteA : ∀ c, c < 128 → ∀ e, e < 2 → (c + 128 * e) &&& 85 = c &&& 85 := by decide +kernel
theorem byteB : ∀ c, c < 64 → ∀ e, e < 4 → (c + 64 * e) &&& 51 = c &&& 51 := by decide +kernel
theorem byteAll : ∀ b, b < 256 → p8 b < 256 ∧ q8 (p8 b) ≤ 68 ∧ q8 (p8 b) % 16 ≤ 4 ∧ q8 (p8 b) / 16 + q8 (p8 b) % 16 = pop 8 b ∧ pop 8 b ≤ 8 := by decide +kernel

theorem stepA_succ (k b y : Nat) (hb : b < 256) : stepA (k + 1) (b + 256 * y) = p8 b + 256 * stepA k y := by
  unfold stepA p8
  have e : (b + 256 * y) / 2 = (b / 2 + 128 * (y % 2)) + 256 * (y / 2) := by omega
  rw [e]
  show ((b / 2 + 128 * (y % 2)) + 256 * (y / 2) &&& (85 + 256 * mk 85 k)) + ((b + 256 * y) &&& (85 + 256 * mk 85 k)) = _
  rw [and_byte _ _ _ _ (by omega) (by omega), and_byte _ _ _ _ hb (by omega), byteA _ (by omega) _ (by omega)]
  omega

theorem stepB_succ (k p z : Nat) (hp : p < 256) : stepB (k + 1) (p + 256 * z) = q8 p + 256 * stepB k z := by
  unfold stepB q8
  have e : (p + 256 * z) / 4 = (p / 4 + 64 * (z % 4)) + 256 * (z / 4) := by omega
  rw [e]
  show ((p / 4 + 64 * (z % 4)) + 256 * (z / 4) &&& (51 + 256 * mk 51 k)) + ((p + 256 * z) &&& (51 + 256 * mk 51 k)) = _
  rw [and_byte _ _ _ _ (by omega) (by omega), and_byte _ _ _ _ hp (by omega), byteB _ (by omega) _ (by omega)]
  omega

theorem stepC_succ (k q z : Nat) (hq : q ≤ 68) (hz : z % 16 ≤ 4) (hq' : q / 16 + q % 16 < 16) : stepC (k + 1) (q + 256 * z) = (q / 16 + q % 16) + 256 * stepC k z := by
  unfold stepC
  have e : (q + 256 * z) / 16 + (q + 256 * z) = (q / 16 + 16 * (z % 16) + q) + 256 * (z / 16 + z) := by omega
  rw [e]
  show ((q / 16 + 16 * (z % 16) + q) + 256 * (z / 16 + z)) &&& (15 + 256 * mk 15 k) = _
  rw [and_byte _ _ _ _ (by omega) (by omega)]
  have e2 : (q / 16 + 16 * (z % 16) + q) &&& 15 = (q / 16 + 16 * (z % 16) + q) % 16 := Nat.and_two_pow_sub_one_eq_mod _ 4
  rw [e2]
  omega

def rows (k x : Nat) : Nat := stepC k (stepB k (stepA k x))

theorem stepBA_mod (k : Nat) : ∀ y, y < 256 ^ k → stepB k (stepA k y) % 16 ≤ 4 := by
  cases k with
  | zero => intro y _; simp [stepB, stepA, mk]
  | succ k =>
    intro y hy
    have h := byteAll (y % 256) (by omega)
    have e : y = y % 256 + 256 * (y / 256) := by omega
    rw [e, stepA_succ _ _ _ (by omega), stepB_succ _ _ _ h.1]
    omega

theorem rows_succ (k b y : Nat) (hb : b < 256) (hy : y < 256 ^ k) : rows (k + 1) (b + 256 * y) = pop 8 b + 256 * rows k y := by
  unfold rows
  obtain ⟨h1, h2, h3, h4, h5⟩ := byteAll b hb
  rw [stepA_succ _ _ _ hb, stepB_succ _ _ _ h1, stepC_succ _ _ _ h2 (stepBA_mod k y hy) (by omega), h4]

theorem pop_add (j k x : Nat) : pop (j + k) x = pop j x + pop k (x / 2 ^ j) := by
  induction j generalizing x with
  | zero => simp [pop]
  | succ j ih =>
    rw [show j + 1 + k = (j + k) + 1 from by omega]
    show x % 2 + pop (j + k) (x / 2) = x % 2 + pop j (x / 2) + _
    rw [ih, Nat.div_div_eq_div_mul, Nat.pow_succ, Nat.mul_comm 2]
    omega
theorem pop_mod (j x : Nat) : pop j (x % 2 ^ j) = pop j x := by
  induction j generalizing x with
  | zero => rfl
  | succ j ih =>
    show x % 2 ^ (j + 1) % 2 + pop j (x % 2 ^ (j + 1) / 2) = x % 2 + pop j (x / 2)
    have e1 : x % 2 ^ (j + 1) % 2 = x % 2 := Nat.mod_mod_of_dvd _ ⟨2 ^ j, by rw [Nat.pow_succ]; omega⟩
    have e2 : x % 2 ^ (j + 1) / 2 = (x / 2) % 2 ^ j := by
      rw [Nat.pow_succ, Nat.mul_comm, Nat.mod_mul_right_div_self]
    rw [e1, e2, ih]
theorem pop_le (j x : Nat) : pop j x ≤ j := by
  induction j generalizing x with
  | zero => simp [pop]
  | succ j ih => have := ih (x / 2); show x % 2 + pop j (x / 2) ≤ _; omega

/-- The word's bytes, lowest first, each as how many of its bits are on. -/
theorem rows8 (x : Nat) (hx : x < 256 ^ 8) : ∃ r0 r1 r2 r3 r4 r5 r6 r7 : Nat, r0 ≤ 8 ∧ r1 ≤ 8 ∧ r2 ≤ 8 ∧ r3 ≤ 8 ∧ r4 ≤ 8 ∧ r5 ≤ 8 ∧ r6 ≤ 8 ∧ r7 ≤ 8 ∧
    rows 8 x = r0 + 256 * (r1 + 256 * (r2 + 256 * (r3 + 256 * (r4 + 256 * (r5 + 256 * (r6 + 256 * r7)))))) ∧ pop 64 x = r0 + r1 + r2 + r3 + r4 + r5 + r6 + r7 := by
  have key : ∀ k x, x < 256 ^ (k + 1) → ∃ r, r ≤ 8 ∧ rows (k + 1) x = r + 256 * rows k (x / 256) ∧ pop (8 * (k + 1)) x = r + pop (8 * k) (x / 256) ∧ x / 256 < 256 ^ k := by
    intro k x hx
    have hy : x / 256 < 256 ^ k := by rw [Nat.pow_succ] at hx; omega
    refine ⟨pop 8 x, pop_le 8 x, ?_, ?_, hy⟩
    · have := rows_succ k (x % 256) (x / 256) (by omega) hy
      rw [show x % 256 + 256 * (x / 256) = x from by omega, show x % 256 = x % 2 ^ 8 from rfl, pop_mod] at this
      exact this
    · rw [show 8 * (k + 1) = 8 + 8 * k from by omega, pop_add]
  obtain ⟨r0, h0, a0, b0, c0⟩ := key 7 x hx
  obtain ⟨r1, h1, a1, b1, c1⟩ := key 6 _ c0
  obtain ⟨r2, h2, a2, b2, c2⟩ := key 5 _ c1
  obtain ⟨r3, h3, a3, b3, c3⟩ := key 4 _ c2
  obtain ⟨r4, h4, a4, b4, c4⟩ := key 3 _ c3
  obtain ⟨r5, h5, a5, b5, c5⟩ := key 2 _ c4
  obtain ⟨r6, h6, a6, b6, c6⟩ := key 1 _ c5
  obtain ⟨r7, h7, a7, b7, c7⟩ := key 0 _ c6
  refine ⟨r0, r1, r2, r3, r4, r5, r6, r7, h0, h1, h2, h3, h4, h5, h6, h7, ?_, ?_⟩
  · have hz : ∀ y, rows 0 y = 0 := fun y => by simp [rows, stepC, mk]
    rw [a0, a1, a2, a3, a4, a5, a6, a7, hz, Nat.mul_zero, Nat.add_zero]
  · have e : pop 64 x = pop (8 * (7 + 1)) x := rfl
    have hz : ∀ y, pop (8 * 0) y = 0 := fun y => rfl
    rw [e, b0, b1, b2, b3, b4, b5, b6, b7, hz]
    clear a0 a1 a2 a3 a4 a5 a6 a7 b0 b1 b2 b3 b4 b5 b6 b7 c0 c1 c2 c3 c4 c5 c6 c7 key
    omega

theorem div1 (r y X : Nat) (h : r < 256) (hX : X = r + 256 * y) : X / 256 = y := by omega
theorem div2 (a b u Y : Nat) (ha : a < 256) (hb : b < 256) (hY : Y = a + 256 * b + 65536 * u) : Y / 65536 = u := by omega
theorem div3 (a b c d u Y : Nat) (ha : a < 256) (hb : b < 256) (hc : c < 256) (hd : d < 256) (hY : Y = a + 256 * b + 65536 * (c + 256 * d + 65536 * u)) : Y / 4294967296 = u := by omega

theorem low4 (r4 r5 r6 r7 y4 y5 y6 : Nat) (h4 : y4 = r4 + 256 * y5) (h5 : y5 = r5 + 256 * y6) (h6 : y6 = r6 + 256 * r7) :
    y4 + y5 + (y6 + r7) = (r4 + r5 + (r6 + r7)) + 128 * (2 * (y5 + y6 + r7)) := by omega
theorem top4 (r4 r5 r6 r7 y4 y5 y6 : Nat) (g4 : r4 ≤ 8) (g5 : r5 ≤ 8) (g6 : r6 ≤ 8) (g7 : r7 ≤ 8) (h4 : y4 = r4 + 256 * y5) (h5 : y5 = r5 + 256 * y6) (h6 : y6 = r6 + 256 * r7) :
    y4 + y5 + (y6 + r7) ≤ 268435456 := by omega
theorem fin8 (a b c d e U V T : Nat) (ha : a ≤ 32) (hb : b ≤ 32) (hc : c ≤ 32) (hd : d ≤ 32) (he : e ≤ 32) (hae : a + e ≤ 64) (hU : U = e + 128 * V) (hU' : U ≤ 268435456) (hT : T = a + e) :
    (a + 256 * b + 65536 * (c + 256 * d + 65536 * U) + U) % 128 = T ∧ a + 256 * b + 65536 * (c + 256 * d + 65536 * U) + U < 2305843009213693952 := by
  constructor
  · subst hT hU; omega
  · omega

theorem sum8 (r0 r1 r2 r3 r4 r5 r6 r7 X : Nat) (h0 : r0 ≤ 8) (h1 : r1 ≤ 8) (h2 : r2 ≤ 8) (h3 : r3 ≤ 8) (h4 : r4 ≤ 8) (h5 : r5 ≤ 8) (h6 : r6 ≤ 8) (h7 : r7 ≤ 8)
    (hX : X = r0 + 256 * (r1 + 256 * (r2 + 256 * (r3 + 256 * (r4 + 256 * (r5 + 256 * (r6 + 256 * r7))))))) :
    (X + X / 256 + (X + X / 256) / 65536 + (X + X / 256 + (X + X / 256) / 65536) / 4294967296) % 128 = r0 + r1 + r2 + r3 + r4 + r5 + r6 + r7 ∧
    X + X / 256 + (X + X / 256) / 65536 + (X + X / 256 + (X + X / 256) / 65536) / 4294967296 < 2305843009213693952 := by
  obtain ⟨y6, h6'⟩ : ∃ y6, y6 = r6 + 256 * r7 := ⟨_, rfl⟩
  obtain ⟨y5, h5'⟩ : ∃ y5, y5 = r5 + 256 * y6 := ⟨_, rfl⟩
  obtain ⟨y4, h4'⟩ : ∃ y4, y4 = r4 + 256 * y5 := ⟨_, rfl⟩
  obtain ⟨y3, h3'⟩ : ∃ y3, y3 = r3 + 256 * y4 := ⟨_, rfl⟩
  obtain ⟨y2, h2'⟩ : ∃ y2, y2 = r2 + 256 * y3 := ⟨_, rfl⟩
  obtain ⟨y1, h1'⟩ : ∃ y1, y1 = r1 + 256 * y2 := ⟨_, rfl⟩
  have hX' : X = r0 + 256 * y1 := by rw [hX, h1', h2', h3', h4', h5', h6']
  clear hX
  have e1 : X / 256 = y1 := div1 r0 y1 X (by omega) hX'
  rw [e1]
  have eY : X + y1 = (r0 + r1) + 256 * (r1 + r2) + 65536 * (y2 + y3) := by omega
  have e2 : (X + y1) / 65536 = y2 + y3 := div2 _ _ _ _ (by omega) (by omega) eY
  rw [e2]
  have eZ : X + y1 + (y2 + y3) = (r0 + r1 + (r2 + r3)) + 256 * (r1 + r2 + (r3 + r4)) + 65536 * ((r2 + r3 + (r4 + r5)) + 256 * (r3 + r4 + (r5 + r6)) + 65536 * (y4 + y5 + (y6 + r7))) := by omega
  have e3 : (X + y1 + (y2 + y3)) / 4294967296 = y4 + y5 + (y6 + r7) := div3 _ _ _ _ _ _ (by omega) (by omega) (by omega) (by omega) eZ
  rw [e3, eZ]
  clear eZ eY e1 e2 e3
  exact fin8 _ _ _ _ _ _ _ _ (by omega) (by omega) (by omega) (by omega) (by omega) (by omega) (low4 r4 r5 r6 r7 y4 y5 y6 h4' h5' h6') (by have := top4 r4 r5 r6 r7 y4 y5 y6 h4 h5 h6 h7 h4' h5' h6'; omega) (by clear hX' h1' h2' h3' h4' h5' h6'; omega)

/-- 'pop 64', under a name that does not unfold. -/
theorem pop_zero : ∀ j, pop j 0 = 0
  | 0 => rfl
  | j + 1 => by
    show 0 % 2 + pop j (0 / 2) = 0
    rw [Nat.zero_div, pop_zero j]
def popw : Nat → Nat
  | 0 => 0
  | x + 1 => pop 64 (x + 1)
theorem popw_eq (x : Nat) : popw x = pop 64 x := by
  cases x with
  | zero => exact (pop_zero 64).symm
  | succ x => exact popw.eq_2 x
theorem popw_le (x : Nat) : popw x ≤ 64 := by rw [popw_eq]; exact pop_le 64 x

end Go.Proofs.YtnhlafifmiiliaaDoor
