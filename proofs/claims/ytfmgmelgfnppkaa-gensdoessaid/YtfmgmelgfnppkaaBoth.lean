/-
  Both lists side by side: the program's below a block, the document's from it on.
-/
import Derived.Test.YtfmgmelgfnppkaaRow
namespace Go.Proofs.Ytfmgmelgfnppkaa
open Go.RowKit

set_option maxHeartbeats 2000000 in
theorem sameO {B : Nat} {w : World} {t : Nat} {L : List En} (h : RefIs B w t L) (hL : L.length < 900000) (r : Ac) :
    Calls Try.prog 12 #[.pointer (some ⟨t, 0, none⟩), .agg #[.int .i64 r.k, .int .i64 r.id, .int .i64 r.g, .bool r.o]] w fun e w' => e = .returned (.int .i64 (doR L r)) ∧ RefIs B w' t (doA L r) ∧ Below B w w' := by
  obtain ⟨K, I, G, O⟩ := r
  have h1 := h.below (below_alloc w (.cells #[.int .i64 K, .int .i64 I, .int .i64 G, .bool O] 33))
  have HA : Hid (Below B w (w.alloc (.cells #[.int .i64 K, .int .i64 I, .int .i64 G, .bool O] 33))) := (below_alloc _ _).mono (Nat.le_trans h.lo (Nat.le_of_lt h.lt))
  have C1 := hid (rdrop B t L I _ h1 (by omega))
  have C2 := hid (rtouch B t L I _ h1 (by omega))
  have C3 := hid (rage B t L G _ h1 (by omega))
  have C4 := hid (rmove B t L I G _ h1 (by omega))
  have C5 := hid (radd B t L I G O _ h1 hL)
  have hway := kd_ways ⟨K, I, G, O⟩
  simp only at hway ⊢
  clear h h1
  rcases hway with q1 | ⟨q1, q2⟩ | ⟨q1, q2, q3⟩ | ⟨q1, q2, q3, q4⟩ | ⟨q1, q2, q3, q4⟩
  · have E1 : Hid (doR L ⟨K, I, G, O⟩ = noneE L I) := by
      show _ = _
      have : K.tmod 6 = 1 := by simpa using q1
      simp [doR, kd, this]
    have E2 : Hid (doA L ⟨K, I, G, O⟩ = dropL L I) := by
      show _ = _
      have : K.tmod 6 = 1 := by simpa using q1
      simp [doA, kd, this]
    go_enter Try.func12, Try.ntmps12
    go_wp2_with fail
    refine C1.out.mono ?_
    rintro e w1 ⟨rfl, h1, h2⟩
    go_wp2_with fail
    go_ret
    exact ⟨by rw [E1.out]; rfl, by rw [E2.out]; exact h1, HA.out.trans h2⟩
  · have E1 : Hid (doR L ⟨K, I, G, O⟩ = noneE L I) := by
      show _ = _
      have : K.tmod 6 = 2 := by simpa using q2
      simp [doR, kd, this]
    have E2 : Hid (doA L ⟨K, I, G, O⟩ = touchL L I) := by
      show _ = _
      have : K.tmod 6 = 2 := by simpa using q2
      simp [doA, kd, this]
    go_enter Try.func12, Try.ntmps12
    go_wp2_with fail
    refine C2.out.mono ?_
    rintro e w1 ⟨rfl, h1, h2⟩
    go_wp2_with fail
    go_ret
    exact ⟨by rw [E1.out]; rfl, by rw [E2.out]; exact h1, HA.out.trans h2⟩
  · have E1 : Hid (doR L ⟨K, I, G, O⟩ = (ageN L G : Nat)) := by
      show _ = _
      have : K.tmod 6 = 3 := by simpa using q3
      simp [doR, kd, this]
    have E2 : Hid (doA L ⟨K, I, G, O⟩ = ageL L G) := by
      show _ = _
      have : K.tmod 6 = 3 := by simpa using q3
      simp [doA, kd, this]
    go_enter Try.func12, Try.ntmps12
    go_wp2_with fail
    refine C3.out.mono ?_
    rintro e w1 ⟨rfl, h1, h2⟩
    go_wp2_with fail
    go_ret
    exact ⟨by rw [E1.out]; rfl, by rw [E2.out]; exact h1, HA.out.trans h2⟩
  · have E1 : Hid (doR L ⟨K, I, G, O⟩ = (moveN L I G : Nat)) := by
      show _ = _
      have : K.tmod 6 = 4 := by simpa using q4
      simp [doR, kd, this]
    have E2 : Hid (doA L ⟨K, I, G, O⟩ = moveL L I G) := by
      show _ = _
      have : K.tmod 6 = 4 := by simpa using q4
      simp [doA, kd, this]
    go_enter Try.func12, Try.ntmps12
    go_wp2_with fail
    refine C4.out.mono ?_
    rintro e w1 ⟨rfl, h1, h2⟩
    go_wp2_with fail
    go_ret
    exact ⟨by rw [E1.out]; rfl, by rw [E2.out]; exact h1, HA.out.trans h2⟩
  · have E1 : Hid (doR L ⟨K, I, G, O⟩ = addE L I G) := by
      show _ = _
      simp only [beq_eq_false_iff_ne] at q1 q2 q3 q4
      simp [doR, kd, q1, q2, q3, q4]
    have E2 : Hid (doA L ⟨K, I, G, O⟩ = addL L I G O) := by
      show _ = _
      simp only [beq_eq_false_iff_ne] at q1 q2 q3 q4
      simp [doA, kd, q1, q2, q3, q4]
    go_enter Try.func12, Try.ntmps12
    go_wp2_with fail
    refine C5.out.mono ?_
    rintro e w1 ⟨rfl, h1, h2⟩
    go_wp2_with fail
    go_ret
    exact ⟨by rw [E1.out]; rfl, by rw [E2.out]; exact h1, HA.out.trans h2⟩

structure Bo (w0 w : World) (t m r B : Nat) (L M : List En) : Prop where
  ow : Ow w0 w t m L
  ref : RefIs B w r M
  sep : t < B ∧ m < B ∧ w0.heap.size ≤ B
section
variable {w0 w w' : World} {t m r B : Nat} {L M : List En}
theorem Bo.later (h : Bo w0 w t m r B L M) (hb : Below w.heap.size w w') : Bo w0 w' t m r B L M := ⟨h.ow.later hb, h.ref.below hb, h.sep⟩
theorem Bo.drewN (h : Bo w0 w t m r B L M) (n : Nat) : Bo w0 (w.drewN n) t m r B L M := h.later ⟨rfl, rfl, rfl, Nat.le_refl _, fun _ _ => rfl⟩
theorem Bo.start (h : Ow w0 w t m []) : Bo w0 (w.alloc (.cells #[.slice none 0 0] 30)) t m w.heap.size w.heap.size [] [] :=
  ⟨h.later (below_alloc _ _), ⟨⟨_, RowAt.new w #[.slice none 0 0] 30, World.ownsRow_nil _ _ _ _⟩, Nat.le_refl _, Ok.nil⟩, h.ls.lt.1, h.ls.lt.2, h.bel.size⟩
theorem Bo.bel (h : Bo w0 w t m r B L M) : Below w0.heap.size w0 w := h.ow.bel
/-- An act on the program's side. -/
theorem Bo.doP (h : Bo w0 w t m r B L M) (hL : L.length < 900000) (x : Ac) (hx : AcW x) :
    Calls Try.prog 11 #[.pointer (some ⟨t, 0, none⟩), .agg #[.int .i64 x.k, .int .i64 x.id, .int .i64 x.g, .bool x.o]] w fun e w' => e = .returned (.int .i64 (doR L x)) ∧ Bo w0 w' t m r B (doA L x) M :=
  (doO h.ow hL x hx).mono fun _ _ ⟨he, h1, h2⟩ => ⟨he, h1, h.ref.apart h.ow.ls.m h2, h.sep⟩
/-- The same on the document's. -/
theorem Bo.doQ (h : Bo w0 w t m r B L M) (hM : M.length < 900000) (x : Ac) :
    Calls Try.prog 12 #[.pointer (some ⟨r, 0, none⟩), .agg #[.int .i64 x.k, .int .i64 x.id, .int .i64 x.g, .bool x.o]] w fun e w' => e = .returned (.int .i64 (doR M x)) ∧ Bo w0 w' t m r B L (doA M x) :=
  (sameO h.ref hM x).mono fun _ _ ⟨he, h1, h2⟩ => ⟨he, ⟨⟨h.ow.ls.h.below h2 h.sep.1, h.ow.ls.m.block (h2.block m h.sep.2.1), h.ow.ls.ok⟩, h.ow.lo, h.ow.bel.trans (h2.mono h.sep.2.2)⟩, h1, h.sep⟩
end
end Go.Proofs.Ytfmgmelgfnppkaa
