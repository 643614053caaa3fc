/-
  Contracts of math/bits.OnesCount64 and TrailingZeros64, and of bits.Map's Count.
-/
import Derived.Test.YtijoocoacaogoaaDoorW3
import Derived.Test.YtijoocoacaogoaaDoorPop
import Derived.Lib.TrailingZeros
namespace Go.Proofs.YtijoocoacaogoaaDoor
open Go.RowKit

set_option maxHeartbeats 400000 in
theorem ones_core (x a1 b1 a2 b2 x3 : Nat) (w : World)
    (e1 : bits BinOp.and IntKind.u64 ((x : Int) / 2) 6148914691236517205 = (a1 : Int)) (e2 : bits BinOp.and IntKind.u64 (x : Int) 6148914691236517205 = (b1 : Int)) (h1 : a1 + b1 ≤ 12297829382473034410)
    (e3 : bits BinOp.and IntKind.u64 (((a1 : Int) + (b1 : Int)) / 4) 3689348814741910323 = (a2 : Int)) (e4 : bits BinOp.and IntKind.u64 ((a1 : Int) + (b1 : Int)) 3689348814741910323 = (b2 : Int)) (h2 : a2 + b2 ≤ 7378697629483820646)
    (e5 : bits BinOp.and IntKind.u64 (((a2 : Int) + (b2 : Int)) / 16 + ((a2 : Int) + (b2 : Int))) 1085102592571150095 = (x3 : Int)) (h3 : x3 ≤ 1085102592571150095) :
    Calls Tryd.prog 33 #[.int .u64 x] w fun e w' => e = .returned (.int .i64 (bits BinOp.and IntKind.i64 ((x3 : Int) + (x3 : Int) / 256 + ((x3 : Int) + (x3 : Int) / 256) / 65536 + ((x3 : Int) + (x3 : Int) / 256 + ((x3 : Int) + (x3 : Int) / 256) / 65536) / 4294967296) 127)) ∧ w' = w := by
  go_enter Tryd.func33, Tryd.ntmps33
  go_wp2
  go_ret
  exact ⟨rfl, rfl⟩

theorem bits_and_i64_127 (X : Nat) (h : X < 9223372036854775808) : bits BinOp.and IntKind.i64 (X : Int) 127 = ((X % 128 : Nat) : Int) := by
  have h1 : (BitVec.ofInt 64 (X : Int)).toNat = X := by rw [BitVec.ofInt_natCast, BitVec.toNat_ofNat]; exact Nat.mod_eq_of_lt (by omega)
  have h2 : (BitVec.ofInt 64 (127 : Int)).toNat = 127 := by decide
  show IntKind.i64.wrap ((BitVec.ofInt 64 (X : Int) &&& BitVec.ofInt 64 127).toNat : Int) = _
  rw [BitVec.toNat_and, h1, h2, show X &&& 127 = X % 128 from Nat.and_two_pow_sub_one_eq_mod X 7]
  rw [IntKind.wrap_i64]
  omega

theorem and_u64 (X m : Nat) (h : X < 18446744073709551616) (hm : m < 18446744073709551616) : bits BinOp.and IntKind.u64 (X : Int) (m : Int) = ((X &&& m : Nat) : Int) := bits_and_u64_nat X m h hm

theorem onesCount_any (x : Nat) (w : World) (hx : x < 18446744073709551616) :
    Calls Tryd.prog 33 #[.int .u64 x] w fun e w' => e = .returned (.int .i64 (popw x)) ∧ w' = w := by
  rw [popw_eq]
  have m0 : mk 85 8 = 6148914691236517205 := by decide
  have m1 : mk 51 8 = 3689348814741910323 := by decide
  have m2 : mk 15 8 = 1085102592571150095 := by decide
  have b1 : x / 2 &&& 6148914691236517205 ≤ 6148914691236517205 := Nat.and_le_right
  have b2 : x &&& 6148914691236517205 ≤ 6148914691236517205 := Nat.and_le_right
  obtain ⟨a1, ha1⟩ : ∃ a1, a1 = x / 2 &&& 6148914691236517205 := ⟨_, rfl⟩
  obtain ⟨c1, hc1⟩ : ∃ c1, c1 = x &&& 6148914691236517205 := ⟨_, rfl⟩
  rw [← ha1] at b1
  rw [← hc1] at b2
  have sA : stepA 8 x = a1 + c1 := by unfold stepA; rw [m0, ha1, hc1]
  obtain ⟨a2, ha2⟩ : ∃ a2, a2 = (a1 + c1) / 4 &&& 3689348814741910323 := ⟨_, rfl⟩
  obtain ⟨c2, hc2⟩ : ∃ c2, c2 = (a1 + c1) &&& 3689348814741910323 := ⟨_, rfl⟩
  have b3 : a2 ≤ 3689348814741910323 := by rw [ha2]; exact Nat.and_le_right
  have b4 : c2 ≤ 3689348814741910323 := by rw [hc2]; exact Nat.and_le_right
  have sB : stepB 8 (a1 + c1) = a2 + c2 := by unfold stepB; rw [m1, ha2, hc2]
  obtain ⟨x3, hx3⟩ : ∃ x3, x3 = ((a2 + c2) / 16 + (a2 + c2)) &&& 1085102592571150095 := ⟨_, rfl⟩
  have b5 : x3 ≤ 1085102592571150095 := by rw [hx3]; exact Nat.and_le_right
  have sC : rows 8 x = x3 := by unfold rows; rw [sA, sB]; unfold stepC; rw [m2, hx3]
  have e1 : bits BinOp.and IntKind.u64 ((x : Int) / 2) 6148914691236517205 = (a1 : Int) := by
    have := and_u64 (x / 2) 6148914691236517205 (by omega) (by decide); rw [ha1]; simpa using this
  have e2 : bits BinOp.and IntKind.u64 (x : Int) 6148914691236517205 = (c1 : Int) := by
    have := and_u64 x 6148914691236517205 hx (by decide); rw [hc1]; simpa using this
  have e3 : bits BinOp.and IntKind.u64 (((a1 : Int) + (c1 : Int)) / 4) 3689348814741910323 = (a2 : Int) := by
    have := and_u64 ((a1 + c1) / 4) 3689348814741910323 (by omega) (by decide); rw [ha2]; simpa using this
  have e4 : bits BinOp.and IntKind.u64 ((a1 : Int) + (c1 : Int)) 3689348814741910323 = (c2 : Int) := by
    have := and_u64 (a1 + c1) 3689348814741910323 (by omega) (by decide); rw [hc2]; simpa using this
  have e5 : bits BinOp.and IntKind.u64 (((a2 : Int) + (c2 : Int)) / 16 + ((a2 : Int) + (c2 : Int))) 1085102592571150095 = (x3 : Int) := by
    have := and_u64 ((a2 + c2) / 16 + (a2 + c2)) 1085102592571150095 (by omega) (by decide); rw [hx3]; simpa using this
  refine (ones_core x a1 c1 a2 c2 x3 w e1 e2 (by omega) e3 e4 (by omega) e5 b5).mono ?_
  rintro e w' ⟨rfl, rfl⟩
  refine ⟨?_, rfl⟩
  obtain ⟨r0, r1, r2, r3, r4, r5, r6, r7, h0, h1, h2, h3, h4, h5, h6, h7, hr, hp⟩ := rows8 x hx
  rw [sC] at hr
  obtain ⟨f1, f2⟩ := sum8 r0 r1 r2 r3 r4 r5 r6 r7 x3 h0 h1 h2 h3 h4 h5 h6 h7 hr
  have := bits_and_i64_127 _ (Nat.lt_trans f2 (by decide))
  rw [f1, ← hp] at this
  rw [← this]
  simp

set_option maxHeartbeats 400000 in
theorem tz_core (x k idx : Nat) (w : World) (hx0 : ((x : Int) == 0) = false)
    (key : IntKind.u64.wrap (bits BinOp.and IntKind.u64 (x : Int) (IntKind.u64.wrap (-(x : Int))) * 285870213051353865) / 288230376151711744 = (idx : Int))
    (hi : idx < 64) (hk : k < 64) (hcell : w.cell? ⟨0, idx, none⟩ = some (.int .u8 k)) :
    Calls Tryd.prog 36 #[.int .u64 x] w fun e w' => e = .returned (.int .i64 k) ∧ w' = w := by
  go_enter Tryd.func36, Tryd.ntmps36
  go_wp2_with (simp only [key])
  go_ret
  exact ⟨rfl, rfl⟩

/-- The library's table, as its initialiser lays it. -/
def Tab (w : World) : Prop := ∀ j, j < 64 → w.cell? ⟨0, j, none⟩ = some (.int .u8 (Lib.deBruijn64tab.getD j 0))
theorem Tab.below {B : Nat} {w w' : World} (h : Tab w) (hb : Below B w w') (hB : 0 < B) : Tab w' := fun j hj => by rw [hb.cell (p := ⟨0, j, none⟩) hB]; exact h j hj
theorem Tab.drewN {w : World} (h : Tab w) (n : Nat) : Tab (w.drewN n) := h
theorem Tab.pos {w : World} (h : Tab w) : 0 < w.heap.size := block_lt_of_cell (a := ⟨0, 0, none⟩) (h 0 (by decide))
theorem Tab.but {b : Nat} {w w' : World} (h : Tab w) (hb : But b w w') (h0 : 0 < b) : Tab w' := h.below (hb.below (B := 1) (by omega)) (by omega)

theorem tz64_key (x a : Nat) (hx : x < 18446744073709551616) (hx0 : x ≠ 0) (hlow : x &&& (18446744073709551616 - x) = a) :
    IntKind.u64.wrap (bits BinOp.and IntKind.u64 (x : Int) (IntKind.u64.wrap (-(x : Int))) * 285870213051353865) / 288230376151711744 = ((a * 285870213051353865 % 18446744073709551616 / 288230376151711744 : Nat) : Int) := by
  have e1 : IntKind.u64.wrap (-(x : Int)) = ((18446744073709551616 - x : Nat) : Int) := by rw [IntKind.wrap_u64]; omega
  rw [e1, bits_and_u64_nat x _ hx (by omega), hlow, IntKind.wrap_u64]
  omega

theorem tz_any (x : Nat) (w : World) (hx : x < 18446744073709551616) (hx0 : x ≠ 0) (hT : Tab w) :
    Calls Tryd.prog 36 #[.int .u64 x] w fun e w' => e = .returned (.int .i64 (Lib.ctz 64 x)) ∧ w' = w := by
  obtain ⟨hlow, hk⟩ := Lib.lowest_bit 64 x hx0 hx
  obtain ⟨hi, htab⟩ := Lib.deBruijn64_at _ hk
  have hcell := hT _ hi
  rw [htab] at hcell
  exact tz_core x _ _ w (by simp; omega) (tz64_key x _ hx hx0 hlow) hi hk hcell

end Go.Proofs.YtijoocoacaogoaaDoor
