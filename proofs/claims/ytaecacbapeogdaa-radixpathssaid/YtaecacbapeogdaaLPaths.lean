/-
  The law RadixPaths walked.
-/
import Derived.Test.YtaecacbapeogdaaActs
namespace Go.Proofs.Ytaecacbapeogdaa
open Go.RowKit

theorem pathK_get (p i : Nat) (hi : i < 4) : (pathK p 4)[i]'(by rw [pathK_len]; exact hi) = dg p i := by simp [pathK]

set_option maxRecDepth 100000 in
set_option maxHeartbeats 2000000 in
theorem paths_walk (x : Int) (w : World) : Calls Try.prog 7 #[.int .i64 x] w fun e w' => e = .returned (.bool true) ∧ Below w.heap.size w w' := by
  cases hx : isPg x with
  | false =>
    have hcase : x < 0 ∨ (0 ≤ x ∧ 65535 < x) := by simp [isPg] at hx; omega
    have hL := pathL_no hx
    clear hx
    rcases hcase with h0 | ⟨h0, h1⟩
    · go_enter Try.func7, Try.ntmps7
      go_wp2_with fail
      refine (works_any _).mono ?_
      rintro e w1 ⟨rfl, hb1⟩
      go_wp2_with fail
      refine (ppath x _).mono ?_
      rintro e w2 ⟨v, rfl, hr, hb2⟩
      rw [hL] at hr
      obtain ⟨a, cap, rfl⟩ := own_len hr
      go_wp2
      go_ret
      exact ⟨rfl, hb1.trans (hb2.mono hb1.size)⟩
    · go_enter Try.func7, Try.ntmps7
      go_wp2_with fail
      refine (works_any _).mono ?_
      rintro e w1 ⟨rfl, hb1⟩
      go_wp2_with fail
      refine (ppath x _).mono ?_
      rintro e w2 ⟨v, rfl, hr, hb2⟩
      rw [hL] at hr
      obtain ⟨a, cap, rfl⟩ := own_len hr
      go_wp2
      go_ret
      exact ⟨rfl, hb1.trans (hb2.mono hb1.size)⟩
  | true =>
    obtain ⟨p, rfl, hp⟩ := isPg_true hx
    have hL := (pathL_nat hp).trans (pathK_four p).symm
    clear hx
    go_enter Try.func7, Try.ntmps7
    go_wp2_with fail
    refine (works_any _).mono ?_
    rintro e w1 ⟨rfl, hb1⟩
    go_wp2_with fail
    refine (ppath p _).mono ?_
    rintro e w2 ⟨v, rfl, hr, hb2⟩
    rw [hL] at hr
    have hb := hb1.trans (hb2.mono hb1.size)
    have hc : ∀ i, i < 4 → ∃ g cap, v = .slice (some ⟨g, 0, none⟩) 4 cap ∧ w2.cell? ⟨g, i, none⟩ = some (.int .i64 (dg p i)) := by
      intro i hi
      obtain ⟨g, cap, h1, h2⟩ := own_cell hr (i := i) (by rw [pathK_len]; exact hi)
      rw [pathK_get p i hi] at h2
      exact ⟨g, cap, h1, h2⟩
    obtain ⟨g, cap, rfl, -⟩ := hc 0 (by omega)
    have hcg : ∀ i, i < 4 → w2.cell? ⟨g, i, none⟩ = some (.int .i64 (dg p i)) := by
      intro i hi
      obtain ⟨g', cap', h1, h2⟩ := hc i hi
      have h3 := congrArg Value.ownBlock h1
      simp [Value.ownBlock] at h3
      subst h3
      exact h2
    have HP4 : Hid (pg p 4 = p) := pg_four p
    have HP0 : Hid (pg p 0 = 0) := pg_zero hp
    clear hc hr hb1 hb2 hL
    go_wp2
    go_loopw [5, 6] (fun s5 s6 wr => ∃ i : Nat, i ≤ 4 ∧ s6 = .int .i64 i ∧ s5 = .int .i64 (pg p i) ∧ wr = w2) (fun _ s6 _ => 4 - (intOf s6).toNat)
    case atStart => exact ⟨0, by omega, rfl, by rw [HP0.out]; rfl, rfl⟩
    case round =>
      obtain ⟨i, hi, rfl, rfl, rfl⟩ := hrel
      by_cases hlt : i < 4
      · have hci := hcg i hlt
        have hd := dg_lt p i
        have hs := pg_step p (k := i) (by omega)
        have hle : pg p i ≤ p := Nat.div_le_self _ _
        have HS : Hid (pg p (i + 1) = 16 * pg p i + dg p i) := hs
        clear hs hcg
        go_wp2
        exact ⟨⟨i + 1, by omega, by go_num, by rw [HS.out]; go_num, trivial⟩, by simp [intOf]; omega⟩
      · have : i = 4 := by omega
        subst this
        rw [HP4.out]
        have hpp : ((p : Int) == (p : Int)) = true := by simp
        clear hcg
        go_wp2
        go_ret
        exact ⟨rfl, hb⟩
end Go.Proofs.Ytaecacbapeogdaa
