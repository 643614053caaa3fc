/-
  The law EntryPacks, walked: for every input it answers true.
-/
import Derived.Test.YtlpbpibjofepjaaR3
namespace Go.Proofs.Ytlpbpibjofepjaa
open Go.RowKit

theorem eqE_same (k p : Int) (a b : Bool) : eqE k p a b k p a b = true := by simp [eqE]

set_option maxRecDepth 100000 in
set_option maxHeartbeats 4000000 in
theorem packs_walk (k p : Int) (a b : Bool) (x : Nat) (w : World) (hp : -9223372036854775808 ≤ p ∧ p ≤ 9223372036854775807) (hx : x < 18446744073709551616) :
    Calls Try.prog 3 #[.agg #[.int .i64 k, .int .i64 p, .bool a, .bool b], .int .u64 x] w fun e w' => e = .returned (.bool true) ∧ Below w.heap.size w w' := by
  obtain ⟨X, hX⟩ : ∃ X, X = packX k p a b := ⟨_, rfl⟩
  obtain ⟨E, hE⟩ : ∃ X, X = packE k p a b := ⟨_, rfl⟩
  obtain ⟨K, hK⟩ : ∃ K, K = eK x := ⟨_, rfl⟩
  obtain ⟨P, hP⟩ : ∃ K, K = eP x := ⟨_, rfl⟩
  obtain ⟨A, hA⟩ : ∃ K, K = eW x := ⟨_, rfl⟩
  obtain ⟨B, hB⟩ : ∃ K, K = eT x := ⟨_, rfl⟩
  obtain ⟨F, hF⟩ : ∃ K, K = eE x := ⟨_, rfl⟩
  have H1 : Hid (∀ w, Calls Try.prog 10 #[.agg #[.int .i64 k, .int .i64 p, .bool a, .bool b]] w fun e w' => e = .returned (.tuple #[.int .u64 X, .int .i64 E]) ∧ Below w.heap.size w w') := by
    intro w; rw [hX, hE]; exact ppack k p a b w hp
  have H2 : Hid (∀ w, Calls Try.prog 11 #[.agg #[.int .i64 k, .int .i64 p, .bool a, .bool b]] w fun e w' => e = .returned (.tuple #[.int .u64 X, .int .i64 E]) ∧ Below w.heap.size w w') := by
    intro w; rw [hX, hE]; exact rpack k p a b w hp
  have H3 : Hid (∀ w, Calls Try.prog 12 #[.int .u64 x] w fun e w' => e = .returned (.tuple #[.agg #[.int .i64 K, .int .i64 P, .bool A, .bool B], .int .i64 F]) ∧ Below w.heap.size w w') := by
    intro w; rw [hK, hP, hA, hB, hF]; exact punpack x w
  have H4 : Hid (∀ w, Calls Try.prog 13 #[.int .u64 x] w fun e w' => e = .returned (.tuple #[.agg #[.int .i64 K, .int .i64 P, .bool A, .bool B], .int .i64 F]) ∧ Below w.heap.size w w') := by
    intro w; rw [hK, hP, hA, hB, hF]; exact runpack x w hx
  have hqq := fun w => eq24 K P A B K P A B w
  have hgt := guard24
  rw [eqE_same] at hqq
  have q1 : ((X : Int) == (X : Int)) = true := by simp
  have q2 : (E == E) = true := by simp
  have q3 : (F == F) = true := by simp
  clear hX hE hK hP hA hB hF hp hx
  obtain ⟨w0, hw0, hr0, hB0, -⟩ := boxOn w w (.int .i64 k) (.int .i64 p) (.bool a) (.bool b) (Below.refl _ _)
  go_enter Try.func3, Try.ntmps3
  go_wp2_with fail
  rw [← hw0]
  clear hw0
  refine (works_any _).mono ?_
  rintro e w1 ⟨rfl, hb1⟩
  have hr1 := hr0.later hb1
  have hB1 := bel_trans hB0 hb1
  clear hr0 hB0 hb1
  obtain ⟨c0, c1, c2, c3⟩ := hr1.four
  go_wp2_with fail
  refine (H1.out _).mono ?_
  rintro e w2 ⟨rfl, hb2⟩
  have hr2 := hr1.later hb2
  have hB2 := bel_trans hB1 hb2
  clear hr1 hB1 hb2 c0 c1 c2 c3
  obtain ⟨c0, c1, c2, c3⟩ := hr2.four
  go_wp2_with fail
  refine (H2.out _).mono ?_
  rintro e w3 ⟨rfl, hb3⟩
  have hB3 := bel_trans hB2 hb3
  clear hr2 hB2 hb3 c0 c1 c2 c3
  go_wp2_with fail
  refine (H3.out _).mono ?_
  rintro e w4 ⟨rfl, hb4⟩
  have hB4 := bel_trans hB3 hb4
  clear hB3 hb4
  obtain ⟨w5, hw5, hr5, hB5, -⟩ := boxOn w w4 (.int .i64 K) (.int .i64 P) (.bool A) (.bool B) hB4
  go_wp2_with fail
  rw [← hw5]
  clear hw5 hB4
  refine (H4.out _).mono ?_
  rintro e w6 ⟨rfl, hb6⟩
  have hr6 := hr5.later hb6
  have hB6 := bel_trans hB5 hb6
  clear hr5 hB5 hb6
  obtain ⟨c0, c1, c2, c3⟩ := (hr6.alloc (.cells #[.int .i64 K, .int .i64 P, .bool A, .bool B] 24)).four
  go_wp2_with fail
  go_ret
  exact ⟨rfl, bel_trans hB6 (below_alloc _ _)⟩
end Go.Proofs.Ytlpbpibjofepjaa
