/-
  Contracts of the document's own entries: bit, Pack.
-/
import Derived.Test.YtlpbpibjofepjaaP5
import Derived.Test.YtlpbpibjofepjaaRef4
namespace Go.Proofs.Ytlpbpibjofepjaa
open Go.RowKit

theorem rbit (b : Bool) (w : World) : Calls Try.prog 25 #[.bool b] w fun e w' => e = .returned (.int .i64 (bi b)) ∧ w' = w := by
  cases b
  · go_enter Try.func25, Try.ntmps25
    go_wp2
    go_ret
    exact ⟨rfl, rfl⟩
  · go_enter Try.func25, Try.ntmps25
    go_wp2
    go_ret
    exact ⟨rfl, rfl⟩

theorem two1 (w : World) (v0 v1 v2 v3 : Int) (o : Obj) : IntsAt ((w.alloc (.cells #[.int .i64 v0, .int .i64 v1, .int .i64 v2, .int .i64 v3] 3)).alloc o).drew (some ⟨w.heap.size, 0, none⟩) [v0, v1, v2, v3] :=
  IntsAt.of_row (t := 3) (((RowAt.new w #[.int .i64 v0, .int .i64 v1, .int .i64 v2, .int .i64 v3] 3).alloc o).drewN 1)
theorem two2 (w : World) (v0 v1 v2 v3 : Int) (o : Obj) : IntsAt ((w.alloc o).alloc (.cells #[.int .i64 v0, .int .i64 v1, .int .i64 v2, .int .i64 v3] 3)).drew (some ⟨w.heap.size + 1, 0, none⟩) [v0, v1, v2, v3] := by
  have := (RowAt.new (w.alloc o) #[.int .i64 v0, .int .i64 v1, .int .i64 v2, .int .i64 v3] 3).drewN 1
  rw [show (w.alloc o).heap.size = w.heap.size + 1 by simp] at this
  exact IntsAt.of_row (t := 3) this
theorem belR {w w1 : World} (o1 o2 : Obj) (n : Nat) (hb : Below w.heap.size w w1) : Below w.heap.size w (((w1.alloc o1).alloc o2).drewN n) :=
  below_drawn (bel_trans (bel_trans hb (below_alloc w1 o1)) (below_alloc _ o2)) n
/-- The document's Pack of an entry's fields. -/
theorem rbits (q q' : Option Addr) (k p : Int) (a b : Bool) (w : World) (hm : mayB k p a b = true) (hp : -9223372036854775808 ≤ p ∧ p ≤ 9223372036854775807) (h1 : IntsAt w q Ws) (h2 : IntsAt w q' [k, p, bi a, bi b]) :
    Calls Try.prog 24 #[.slice q 4 4, .slice q' 4 4] w fun e w' => e = .returned (.tuple #[.int .u64 (packX k p a b), .int .i64 (packE k p a b)]) ∧ ∃ n, w' = w.drewN n := by
  have hk := mayB_kind hm
  by_cases hf : 0 ≤ p ∧ p < 16777216
  · have hF : Fit Ws [k, p, bi a, bi b] := (fitWs k p a b).2 ⟨by omega, hf⟩
    have := refPack_yes q q' 4 4 Ws [k, p, bi a, bi b] w (by decide) rfl h1 h2 (i64_four hk hp) spanWs hF
    rw [pack_word] at this
    have ok : packOk k p a b = true := by simp [packOk, hm, hf]
    simpa [packX, packE, ok, Ws] using this
  · have hF : ¬ Fit Ws [k, p, bi a, bi b] := fun h => hf ((fitWs k p a b).1 h).2
    have := refPack_no q q' 4 4 Ws [k, p, bi a, bi b] w (by decide) h1 h2 (i64_four hk hp) (fun h => hF h.2.2)
    have ok : packOk k p a b = false := by simp [packOk, hm]; omega
    simpa [packX, packE, ok, Ws] using this

set_option maxHeartbeats 4000000 in
theorem rpack_no1 (k p : Int) (a b : Bool) (w : World) (hk : k < 0) :
    Calls Try.prog 11 #[.agg #[.int .i64 k, .int .i64 p, .bool a, .bool b]] w fun e w' => e = .returned (.tuple #[.int .u64 0, .int .i64 1]) ∧ Below w.heap.size w w' := by
  have hbel := below_alloc w (.cells #[.int .i64 k, .int .i64 p, .bool a, .bool b] 24)
  go_enter Try.func11, Try.ntmps11
  go_wp2_with fail
  go_ret2
  exact ⟨rfl, hbel⟩

set_option maxHeartbeats 4000000 in
theorem rpack_no2 (k p : Int) (a b : Bool) (w : World) (hk : 2 < k) :
    Calls Try.prog 11 #[.agg #[.int .i64 k, .int .i64 p, .bool a, .bool b]] w fun e w' => e = .returned (.tuple #[.int .u64 0, .int .i64 1]) ∧ Below w.heap.size w w' := by
  have hbel := below_alloc w (.cells #[.int .i64 k, .int .i64 p, .bool a, .bool b] 24)
  go_enter Try.func11, Try.ntmps11
  go_wp2_with fail
  go_ret2
  exact ⟨rfl, hbel⟩

set_option maxHeartbeats 4000000 in
theorem rpack_no0 (k p : Int) (a b : Bool) (w : World) (hm : mayB k p a b = false) (hk : k = 0) :
    Calls Try.prog 11 #[.agg #[.int .i64 k, .int .i64 p, .bool a, .bool b]] w fun e w' => e = .returned (.tuple #[.int .u64 0, .int .i64 1]) ∧ Below w.heap.size w w' := by
  subst hk
  have hqq := fun w => eq24 0 p a b 0 0 false false w
  have hgt := guard24
  rw [eqE_zero, hm] at hqq
  clear hm
  have hbel := below_alloc w (.cells #[.int .i64 0, .int .i64 p, .bool a, .bool b] 24)
  go_enter Try.func11, Try.ntmps11
  go_wp2_with fail
  go_ret2
  exact ⟨rfl, hbel⟩

set_option maxHeartbeats 4000000 in
theorem rpack_yes1 (k p : Int) (a b : Bool) (w : World) (hp : -9223372036854775808 ≤ p ∧ p ≤ 9223372036854775807) (hm : mayB k p a b = true) (hk : k = 1 ∨ k = 2) :
    Calls Try.prog 11 #[.agg #[.int .i64 k, .int .i64 p, .bool a, .bool b]] w fun e w' => e = .returned (.tuple #[.int .u64 (packX k p a b), .int .i64 (packE k p a b)]) ∧ Below w.heap.size w w' := by
  obtain ⟨X, hX⟩ : ∃ X, X = packX k p a b := ⟨_, rfl⟩
  obtain ⟨E, hE⟩ : ∃ E, E = packE k p a b := ⟨_, rfl⟩
  rw [← hX, ← hE]
  have HP : Hid (∀ (q q' : Option Addr) (w : World), IntsAt w q Ws → IntsAt w q' [k, p, bi a, bi b] → Calls Try.prog 24 #[.slice q 4 4, .slice q' 4 4] w fun e w' => e = .returned (.tuple #[.int .u64 X, .int .i64 E]) ∧ ∃ n, w' = w.drewN n) := by
    intro q q' w h1 h2
    rw [hX, hE]
    exact rbits q q' k p a b w hm hp h1 h2
  clear hX hE
  have hk0 : ¬ k < 0 := by omega
  have hk1 : ¬ 2 < k := by omega
  have hk2 : (k == 0) = false := by simp; omega
  clear hk
  obtain ⟨A, hA⟩ : ∃ A, A = bi a := ⟨_, rfl⟩
  obtain ⟨B, hB⟩ : ∃ B, B = bi b := ⟨_, rfl⟩
  have HA : Hid (∀ w, Calls Try.prog 25 #[.bool a] w fun e w' => e = .returned (.int .i64 A) ∧ w' = w) := by
    intro w; rw [hA]; exact rbit a w
  have HB : Hid (∀ w, Calls Try.prog 25 #[.bool b] w fun e w' => e = .returned (.int .i64 B) ∧ w' = w) := by
    intro w; rw [hB]; exact rbit b w
  rw [← hA, ← hB] at HP
  clear hm hA hB
  obtain ⟨w1, hw1, hr, hb, -⟩ := boxOn w w (.int .i64 k) (.int .i64 p) (.bool a) (.bool b) (Below.refl _ _)
  obtain ⟨c0, c1, c2, c3⟩ := hr.four
  clear hr
  go_enter Try.func11, Try.ntmps11
  go_wp2_with fail
  rw [← hw1]
  clear hw1
  go_region_held3 (fun w' => w'.cell? ⟨w.heap.size, 0, none⟩ = some (.int .i64 k) ∧ w'.cell? ⟨w.heap.size, 1, none⟩ = some (.int .i64 p) ∧ w'.cell? ⟨w.heap.size, 2, none⟩ = some (.bool a) ∧ w'.cell? ⟨w.heap.size, 3, none⟩ = some (.bool b))
    (go_keep)
    (first
      | (go_at_call 25; refine (HA.out _).mono ?_; rintro e w' ⟨rfl, rfl⟩)
      | (go_at_call 25; refine (HB.out _).mono ?_; rintro e w' ⟨rfl, rfl⟩)
      | (go_at_call 24; refine (HP.out _ _ _ (by first | exact two1 _ _ _ _ _ _ | exact two2 _ _ _ _ _ _) (by first | exact two2 _ _ _ _ _ _ | exact two1 _ _ _ _ _ _)).mono ?_; rintro e w3 ⟨rfl, nd, rfl⟩))
  all_goals
    go_wp2
    go_ret2
    exact ⟨rfl, belR _ _ _ hb⟩
set_option maxHeartbeats 4000000 in
theorem rpack_yes0 (k p : Int) (a b : Bool) (w : World) (hp : -9223372036854775808 ≤ p ∧ p ≤ 9223372036854775807) (hm : mayB k p a b = true) (hk : k = 0) :
    Calls Try.prog 11 #[.agg #[.int .i64 k, .int .i64 p, .bool a, .bool b]] w fun e w' => e = .returned (.tuple #[.int .u64 (packX k p a b), .int .i64 (packE k p a b)]) ∧ Below w.heap.size w w' := by
  obtain ⟨X, hX⟩ : ∃ X, X = packX k p a b := ⟨_, rfl⟩
  obtain ⟨E, hE⟩ : ∃ E, E = packE k p a b := ⟨_, rfl⟩
  rw [← hX, ← hE]
  have HP : Hid (∀ (q q' : Option Addr) (w : World), IntsAt w q Ws → IntsAt w q' [k, p, bi a, bi b] → Calls Try.prog 24 #[.slice q 4 4, .slice q' 4 4] w fun e w' => e = .returned (.tuple #[.int .u64 X, .int .i64 E]) ∧ ∃ n, w' = w.drewN n) := by
    intro q q' w h1 h2
    rw [hX, hE]
    exact rbits q q' k p a b w hm hp h1 h2
  clear hX hE
  subst hk
  have hqq := fun w => eq24 0 p a b 0 0 false false w
  have hgt := guard24
  rw [eqE_zero, hm] at hqq
  obtain ⟨A, hA⟩ : ∃ A, A = bi a := ⟨_, rfl⟩
  obtain ⟨B, hB⟩ : ∃ B, B = bi b := ⟨_, rfl⟩
  have HA : Hid (∀ w, Calls Try.prog 25 #[.bool a] w fun e w' => e = .returned (.int .i64 A) ∧ w' = w) := by
    intro w; rw [hA]; exact rbit a w
  have HB : Hid (∀ w, Calls Try.prog 25 #[.bool b] w fun e w' => e = .returned (.int .i64 B) ∧ w' = w) := by
    intro w; rw [hB]; exact rbit b w
  rw [← hA, ← hB] at HP
  clear hm hA hB
  obtain ⟨w1, hw1, hr, hb, -⟩ := boxOn w w (.int .i64 0) (.int .i64 p) (.bool a) (.bool b) (Below.refl _ _)
  obtain ⟨c0, c1, c2, c3⟩ := hr.four
  clear hr
  go_enter Try.func11, Try.ntmps11
  go_wp2_with fail
  rw [← hw1]
  clear hw1
  go_region_held3 (fun w' => w'.cell? ⟨w.heap.size, 0, none⟩ = some (.int .i64 0) ∧ w'.cell? ⟨w.heap.size, 1, none⟩ = some (.int .i64 p) ∧ w'.cell? ⟨w.heap.size, 2, none⟩ = some (.bool a) ∧ w'.cell? ⟨w.heap.size, 3, none⟩ = some (.bool b))
    (go_keep)
    (first
      | (go_at_call 25; refine (HA.out _).mono ?_; rintro e w' ⟨rfl, rfl⟩)
      | (go_at_call 25; refine (HB.out _).mono ?_; rintro e w' ⟨rfl, rfl⟩)
      | (go_at_call 24; refine (HP.out _ _ _ (by first | exact two1 _ _ _ _ _ _ | exact two2 _ _ _ _ _ _) (by first | exact two2 _ _ _ _ _ _ | exact two1 _ _ _ _ _ _)).mono ?_; rintro e w3 ⟨rfl, nd, rfl⟩))
  all_goals
    go_wp2
    go_ret2
    exact ⟨rfl, belR _ _ _ hb⟩

theorem rpack (k p : Int) (a b : Bool) (w : World) (hp : -9223372036854775808 ≤ p ∧ p ≤ 9223372036854775807) :
    Calls Try.prog 11 #[.agg #[.int .i64 k, .int .i64 p, .bool a, .bool b]] w fun e w' => e = .returned (.tuple #[.int .u64 (packX k p a b), .int .i64 (packE k p a b)]) ∧ Below w.heap.size w w' := by
  cases hm : mayB k p a b with
  | false =>
    have ok : packOk k p a b = false := by simp [packOk, hm]
    rw [packX_no ok, packE_no ok]
    by_cases h0 : k < 0
    · exact rpack_no1 k p a b w h0
    · by_cases h1 : 2 < k
      · exact rpack_no2 k p a b w h1
      · by_cases h2 : k = 0
        · exact rpack_no0 k p a b w hm h2
        · exfalso
          simp [mayB, h2] at hm
          omega
  | true =>
    have hk := mayB_kind hm
    by_cases h2 : k = 0
    · exact rpack_yes0 k p a b w hp hm h2
    · exact rpack_yes1 k p a b w hp hm (by omega)
end Go.Proofs.Ytlpbpibjofepjaa
