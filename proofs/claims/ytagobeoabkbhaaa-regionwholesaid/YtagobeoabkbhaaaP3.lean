/-
  Lists of regions in memory; the contracts of both Right.
-/
import Derived.Test.YtagobeoabkbhaaaP2
namespace Go.Proofs.Ytagobeoabkbhaaa
open Go.RowKit

/-- A slice of regions, as it lies in memory. -/
structure Regs (w : World) (a : Option Addr) (cap : Nat) (L : List Rg) : Prop where
  le : L.length ≤ cap
  nil : a = none → cap = 0
  at' : ∀ j (h : j < L.length), ∃ b off, a = some ⟨b, off, none⟩ ∧ w.rangeAt b (off + j * 6) (rc L[j])
theorem Regs.later {w w' : World} {a : Option Addr} {cap : Nat} {L : List Rg} (h : Regs w a cap L) (hb : Below w.heap.size w w') : Regs w' a cap L := by
  refine ⟨h.le, h.nil, fun j hj => ?_⟩
  obtain ⟨b, off, rfl, h1⟩ := h.at' j hj
  exact ⟨b, off, rfl, fun i v hv => cell_later hb (h1 i v hv)⟩
theorem Regs.drewN {w : World} {a : Option Addr} {cap : Nat} {L : List Rg} (h : Regs w a cap L) (n : Nat) : Regs (w.drewN n) a cap L := ⟨h.le, h.nil, h.at'⟩
/-- Number j of them. -/
theorem Regs.get {w : World} {a : Option Addr} {cap : Nat} {L : List Rg} (h : Regs w a cap L) {j : Nat} (hj : j < L.length) :
    ∃ (b off : Nat), a = some ⟨b, off, none⟩ ∧ w.cell? ⟨b, off + j * 6, none⟩ = some (.int .i64 L[j].f) ∧ w.cell? ⟨b, off + j * 6 + 1, none⟩ = some (.int .i64 L[j].t) ∧ w.cell? ⟨b, off + j * 6 + 2, none⟩ = some (.int .i64 L[j].k) ∧ w.cell? ⟨b, off + j * 6 + 3, none⟩ = some (.int .i64 L[j].fi) ∧ w.cell? ⟨b, off + j * 6 + 4, none⟩ = some (.int .i64 L[j].ix) ∧ w.cell? ⟨b, off + j * 6 + 5, none⟩ = some (.bool L[j].wr) := by
  obtain ⟨b, off, rfl, h1⟩ := h.at' j hj
  exact ⟨b, off, rfl, h1 0 _ rfl, h1 1 _ rfl, h1 2 _ rfl, h1 3 _ rfl, h1 4 _ rfl, h1 5 _ rfl⟩

theorem rt_step (L : List Rg) (e : Int) (j : Nat) (hj : j < L.length) : rt e (L.drop j) = (vd L[j] && (!decide (L[j].f < e) && rt L[j].t (L.drop (j + 1)))) := by
  rw [List.drop_eq_getElem_cons hj]
  rfl

set_option maxHeartbeats 4000000 in
theorem pright (a : Option Addr) (cap : Nat) (L : List Rg) (w : World) (h : Regs w a cap L) (hL : L.length ≤ 140737488355328) :
    Calls Try.prog 19 #[.slice a L.length cap] w fun e w' => e = .returned (.bool (rt 0 L)) ∧ Below w.heap.size w w' := by
  obtain ⟨V, hV⟩ : ∃ V, V = rt 0 L := ⟨_, rfl⟩
  rw [← hV]
  go_enter Try.func19, Try.ntmps19
  go_wp2
  go_loopw [3, 8] (fun s3 s8 wr => ∃ (e : Int) (j : Nat), j ≤ L.length ∧ s3 = .int .i64 e ∧ s8 = .int .i64 j ∧ V = rt e (L.drop j) ∧ Below w.heap.size w wr) (fun _ s8 _ => L.length - (intOf s8).toNat)
  case atStart => exact ⟨0, 0, by omega, rfl, rfl, by rw [hV]; rfl, Below.refl _ _⟩
  case round =>
    obtain ⟨e, j, hj, rfl, rfl, hv, hb⟩ := hrel
    have hr := h.later hb
    clear h hV
    by_cases hjl : j < L.length
    · rw [rt_step L e j hjl] at hv
      obtain ⟨b, off, rfl, c0, c1, c2, c3, c4, c5⟩ := hr.get hjl
      obtain ⟨x, hx⟩ : ∃ x, x = L[j] := ⟨_, rfl⟩
      rw [← hx] at hv c0 c1 c2 c3 c4 c5
      have HV : Hid (V = (vd x && (!decide (x.f < e) && rt x.t (L.drop (j + 1))))) := hv
      clear hv hx hr
      obtain ⟨w1, hw1, hr1, hB1, -⟩ := boxOn w wr x hb
      go_wp2_with fail
      rw [← hw1]
      clear hw1 c0 c1 c2 c3 c4 c5
      refine (pvalid x _).mono ?_
      rintro e w2 ⟨rfl, hb2⟩
      have hr2 := hr1.later hb2
      have hB2 := bel_trans hB1 hb2
      clear hr1 hB1 hb2
      obtain ⟨c0, c1, c2, c3, c4, c5⟩ := hr2.six
      cases hq : vd x with
      | false =>
        have HF : Hid (V = false) := by show _ = _; rw [HV.out, hq]; rfl
        clear hq HV
        go_wp2
        go_ret
        exact ⟨by rw [HF.out]; rfl, hB2⟩
      | true =>
        by_cases hlt : x.f < e
        · have HF : Hid (V = false) := by show _ = _; rw [HV.out]; simp [hlt]
          have hd : decide (x.f < e) = true := by simp; omega
          clear hq HV
          go_wp2
          go_ret
          exact ⟨by rw [HF.out]; rfl, hB2⟩
        · have HF : Hid (V = rt x.t (L.drop (j + 1))) := by show _ = _; rw [HV.out, hq]; simp [hlt]
          have hd : decide (x.f < e) = false := by simp; omega
          clear hq HV
          go_wp2
          exact ⟨⟨x.t, j + 1, by omega, rfl, by go_num, HF.out, hB2⟩, by simp [intOf]; omega⟩
    · have hlen : j = L.length := by omega
      subst hlen
      have HF : Hid (V = true) := by show _ = _; rw [hv, List.drop_length]; rfl
      clear hv hr
      go_wp2
      go_ret
      exact ⟨by rw [HF.out]; rfl, hb⟩

end Go.Proofs.Ytagobeoabkbhaaa
