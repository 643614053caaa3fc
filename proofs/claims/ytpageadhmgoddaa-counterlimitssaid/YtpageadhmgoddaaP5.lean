/-
  The contract of grow.
-/
import Derived.Test.YtpageadhmgoddaaP4
namespace Go.Proofs.Ytpageadhmgoddaa
open Go.RowKit

set_option maxRecDepth 100000 in
set_option maxHeartbeats 4000000 in
theorem pgrow (c k : Nat) (S : Cs) (n : Int) (w : World) (h : RowAt w c 49 (cc S)) (hk : k < 64) (hn : 0 ≤ n ∧ n ≤ 1099511627776) (hu : 0 ≤ S.u k ∧ S.u k ≤ 1099511627776) :
    Calls Try.prog 28 #[.pointer (some ⟨c, k * 4, none⟩), .int .i64 n] w fun e w' => e = .returned (.tuple #[]) ∧ RowAt w' c 49 (cc ⟨upd S.u k (S.u k + n), S.l, S.f, upd S.p k (max (S.p k) (S.u k + n))⟩) ∧ But c w w' := by
  have c0 : w.cell? ⟨c, k * 4, none⟩ = some (.int .i64 (S.u k)) := by rw [h.cell]; exact cc_at S k 0 hk (by omega)
  have c3 : w.cell? ⟨c, k * 4 + 3, none⟩ = some (.int .i64 (S.p k)) := by rw [h.cell]; exact cc_at S k 3 hk (by omega)
  have f0 := h.frozen (k * 4)
  have hN := h.set (k * 4) (.int .i64 (S.u k + n))
  rw [cc_u _ _ _ hk] at hN
  have d3 : (w.setCell ⟨c, k * 4, none⟩ (.int .i64 (S.u k + n))).cell? ⟨c, k * 4 + 3, none⟩ = some (.int .i64 (S.p k)) := by rw [hN.cell]; exact cc_at _ k 3 hk (by omega)
  have d0 : (w.setCell ⟨c, k * 4, none⟩ (.int .i64 (S.u k + n))).cell? ⟨c, k * 4, none⟩ = some (.int .i64 (S.u k + n)) := by rw [hN.cell]; refine (cc_at _ k 0 hk (by omega)).trans ?_; simp [ac, upd_same]
  have f3 := hN.frozen (k * 4 + 3)
  have hM := hN.set (k * 4 + 3) (.int .i64 (max (S.p k) (S.u k + n)))
  rw [cc_p _ _ _ hk] at hM
  have HM : Hid (RowAt ((w.setCell ⟨c, k * 4, none⟩ (.int .i64 (S.u k + n))).setCell ⟨c, k * 4 + 3, none⟩ (.int .i64 (max (S.p k) (S.u k + n)))) c 49 (cc ⟨upd S.u k (S.u k + n), S.l, S.f, upd S.p k (max (S.p k) (S.u k + n))⟩)) := hM
  obtain ⟨u, e0⟩ : ∃ v, v = S.u k := ⟨_, rfl⟩
  obtain ⟨p, e1⟩ : ∃ v, v = S.p k := ⟨_, rfl⟩
  rw [← e0, ← e1] at HM
  rw [← e0] at c0 hu d0 d3 f3
  rw [← e1] at c3 d3
  rw [← e0, ← e1]
  clear hM hN e0 e1 h
  go_enter Try.func28, Try.ntmps28
  go_wp2_with fail
  obtain ⟨w5, hw5⟩ : ∃ w5, w5 = w.setCell ⟨c, k * 4, none⟩ (.int .i64 (u + n)) := ⟨_, rfl⟩
  rw [← hw5] at d0 d3 f3 HM ⊢
  have HB : Hid (But c w w5) := by show But _ _ _; rw [hw5]; exact But.setCell _ _ _ _
  have HX : Hid ((if p < u + n then u + n else p) = max p (u + n)) := by
    show _ = _
    split <;> omega
  clear hw5 c0 c3 f0
  go_region
  rw [HX.out]
  refine bodyPost_end (results_none rfl _ _ _) rfl ?_
  exact ⟨rfl, HM.out.drewN 1, (HB.out.trans (But.setCell _ _ _ _)).drewN 1⟩
end Go.Proofs.Ytpageadhmgoddaa
