/-
  The laws' act on the program's table.
-/
import Derived.Test.YtponlldgnlckfaaTb
namespace Go.Proofs.Ytponlldgnlckfaa
open Go.RowKit

structure AcW (r : Ac) : Prop where
  id : (Lit.int .i64 r.id).wf = true
  kf : (Lit.int .i64 r.kf).wf = true
  ki : (Lit.int .i64 r.ki).wf = true
  pl : (Lit.int .i64 r.pl).wf = true
  n : (Lit.int .i64 r.n).wf = true
def acV (r : Ac) : Value := .agg #[.int .i64 r.k, .int .i64 r.id, .int .i64 r.kf, .int .i64 r.ki, .int .i64 r.pl, .int .i64 r.n]
theorem kd_ways (r : Ac) : (r.k.tmod 6 == 0) = true ∨ ((r.k.tmod 6 == 0) = false ∧ (r.k.tmod 6 == 1) = true) ∨ ((r.k.tmod 6 == 0) = false ∧ (r.k.tmod 6 == 1) = false ∧ (r.k.tmod 6 == 2) = true) ∨ ((r.k.tmod 6 == 0) = false ∧ (r.k.tmod 6 == 1) = false ∧ (r.k.tmod 6 == 2) = false ∧ (r.k.tmod 6 == 3) = true) ∨
    ((r.k.tmod 6 == 0) = false ∧ (r.k.tmod 6 == 1) = false ∧ (r.k.tmod 6 == 2) = false ∧ (r.k.tmod 6 == 3) = false ∧ (r.k.tmod 6 == 4) = true) ∨ ((r.k.tmod 6 == 0) = false ∧ (r.k.tmod 6 == 1) = false ∧ (r.k.tmod 6 == 2) = false ∧ (r.k.tmod 6 == 3) = false ∧ (r.k.tmod 6 == 4) = false) := by
  cases (r.k.tmod 6 == 0) <;> cases (r.k.tmod 6 == 1) <;> cases (r.k.tmod 6 == 2) <;> cases (r.k.tmod 6 == 3) <;> cases (r.k.tmod 6 == 4) <;> simp

section
variable {Tb : World → World → Nat → (Nat → Prop) → List Pg → Prop} {w0 w w' : World} {t : Nat} {S : Nat → Prop} {L : List Pg} {M : Int}
/-- The contract's end, behind what lies since w was. -/
theorem out_since {w1 w2 : World} (h : Out S w1 w2) (hb : Below w.heap.size w w1) : Out S w w2 :=
  ⟨h.os.trans hb.os, h.tape.trans hb.tape, h.output.trans hb.output, Nat.le_trans hb.size h.size, fun k hk hs => (h.block k (Nat.lt_of_lt_of_le hk hb.size) hs).trans (hb.block k hk)⟩
set_option maxRecDepth 100000 in
set_option maxHeartbeats 4000000 in
theorem doI (I : TbI Tb) (h : Tb w0 w t S L) (hO : Ok M L) (hM : M ≤ 900000000) (hL : L.length < 900000) (r : Ac) (hr : AcW r) :
    Calls Try.prog 12 #[.pointer (some ⟨t, 0, none⟩), .agg #[.int .i64 r.k, .int .i64 r.id, .int .i64 r.kf, .int .i64 r.ki, .int .i64 r.pl, .int .i64 r.n]] w fun e w' => e = .returned (.tuple #[.int .i64 (doN L r), .int .i64 (doE L r)]) ∧ ∃ S', Tb w0 w' t S' (doL L r) ∧ Out S w w' ∧ ∀ k, S' k → S k ∨ w.heap.size ≤ k := by
  obtain ⟨K, id, kf, ki, pl, n⟩ := r
  have hb0 := below_alloc w (.cells #[.int .i64 K, .int .i64 id, .int .i64 kf, .int .i64 ki, .int .i64 pl, .int .i64 n] 34)
  have h1 := I.later h hb0
  obtain ⟨w1, hw1⟩ : ∃ w1, w1 = w.alloc (.cells #[.int .i64 K, .int .i64 id, .int .i64 kf, .int .i64 ki, .int .i64 pl, .int .i64 n] 34) := ⟨_, rfl⟩
  rw [← hw1] at hb0 h1
  have HW := hid hw1
  have HB := hid hb0
  have C0 := hid (I.make h1 hO hM hL (f := kf) (i := ki) (o := n) hr.kf hr.ki hr.n)
  have C1 := hid (I.put h1 hO hM hL (id := id) (p := pl) (a := n) hr.id hr.pl hr.n)
  have C2 := hid (I.ref h1 hO hM hL (id := id) (n := n) hr.id hr.n)
  have C3 := hid (I.drop h1 hO hM hL (id := id) hr.id)
  have C4 := hid (I.own h1 hO hM hL (id := id) (o := n) hr.id hr.n)
  have C5 := hid (I.mark h1 hO hM hL (id := id) (d := decide (0 < n)) hr.id)
  have hway := kd_ways ⟨K, id, kf, ki, pl, n⟩
  have EN : ∀ j : Int, K.tmod 6 = j → kd ⟨K, id, kf, ki, pl, n⟩ = j := fun j h => h
  simp only at hway ⊢
  clear h h1 hb0 hw1 hO hM hL hr
  rcases hway with q0 | ⟨q0, q1⟩ | ⟨q0, q1, q2⟩ | ⟨q0, q1, q2, q3⟩ | ⟨q0, q1, q2, q3, q4⟩ | ⟨q0, q1, q2, q3, q4⟩
  · have e := EN 0 (by simpa using q0)
    have E : Hid (doN L ⟨K, id, kf, ki, pl, n⟩ = makeR L kf ki ∧ doE L ⟨K, id, kf, ki, pl, n⟩ = makeE L kf ki ∧ doL L ⟨K, id, kf, ki, pl, n⟩ = makeL L kf ki n) := by
      show _ ∧ _ ∧ _; unfold doN doE doL; rw [e]; simp
    clear EN e
    go_enter Try.func12, Try.ntmps12
    go_wp2_with fail
    rw [← HW.out]
    refine C0.out.mono ?_
    rintro e w2 ⟨rfl, S', g1, g2, g3⟩
    go_wp2_with fail
    go_ret2
    obtain ⟨e1, e2, e3⟩ := E.out
    exact ⟨by rw [e1, e2]; rfl, S', by rw [e3]; exact g1, out_since g2 HB.out, fun k hk => (g3 k hk).imp (fun x => x) (fun x => Nat.le_trans HB.out.size x)⟩
  · have e := EN 1 (by simpa using q1)
    have E : Hid (doN L ⟨K, id, kf, ki, pl, n⟩ = 0 ∧ doE L ⟨K, id, kf, ki, pl, n⟩ = putE L id pl n ∧ doL L ⟨K, id, kf, ki, pl, n⟩ = putL L id pl n) := by
      show _ ∧ _ ∧ _; unfold doN doE doL; rw [e]; simp
    clear EN e
    go_enter Try.func12, Try.ntmps12
    go_wp2_with fail
    rw [← HW.out]
    refine C1.out.mono ?_
    rintro e w2 ⟨rfl, S', g1, g2, g3⟩
    go_wp2_with fail
    go_ret2
    obtain ⟨e1, e2, e3⟩ := E.out
    exact ⟨by rw [e1, e2]; rfl, S', by rw [e3]; exact g1, out_since g2 HB.out, fun k hk => (g3 k hk).imp (fun x => x) (fun x => Nat.le_trans HB.out.size x)⟩
  · have e := EN 2 (by simpa using q2)
    have E : Hid (doN L ⟨K, id, kf, ki, pl, n⟩ = refN L id n ∧ doE L ⟨K, id, kf, ki, pl, n⟩ = refE L id n ∧ doL L ⟨K, id, kf, ki, pl, n⟩ = refL L id n) := by
      show _ ∧ _ ∧ _; unfold doN doE doL; rw [e]; simp
    clear EN e
    go_enter Try.func12, Try.ntmps12
    go_wp2_with fail
    rw [← HW.out]
    refine C2.out.mono ?_
    rintro e w2 ⟨rfl, S', g1, g2, g3⟩
    go_wp2_with fail
    go_ret2
    obtain ⟨e1, e2, e3⟩ := E.out
    exact ⟨by rw [e1, e2]; rfl, S', by rw [e3]; exact g1, out_since g2 HB.out, fun k hk => (g3 k hk).imp (fun x => x) (fun x => Nat.le_trans HB.out.size x)⟩
  · have e := EN 3 (by simpa using q3)
    have E : Hid (doN L ⟨K, id, kf, ki, pl, n⟩ = 0 ∧ doE L ⟨K, id, kf, ki, pl, n⟩ = dropE L id ∧ doL L ⟨K, id, kf, ki, pl, n⟩ = dropL L id) := by
      show _ ∧ _ ∧ _; unfold doN doE doL; rw [e]; simp
    clear EN e
    go_enter Try.func12, Try.ntmps12
    go_wp2_with fail
    rw [← HW.out]
    refine C3.out.mono ?_
    rintro e w2 ⟨rfl, S', g1, g2, g3⟩
    go_wp2_with fail
    go_ret2
    obtain ⟨e1, e2, e3⟩ := E.out
    exact ⟨by rw [e1, e2]; rfl, S', by rw [e3]; exact g1, out_since g2 HB.out, fun k hk => (g3 k hk).imp (fun x => x) (fun x => Nat.le_trans HB.out.size x)⟩
  · have e := EN 4 (by simpa using q4)
    have E : Hid (doN L ⟨K, id, kf, ki, pl, n⟩ = 0 ∧ doE L ⟨K, id, kf, ki, pl, n⟩ = getE L id ∧ doL L ⟨K, id, kf, ki, pl, n⟩ = ownL L id n) := by
      show _ ∧ _ ∧ _; unfold doN doE doL; rw [e]; simp
    clear EN e
    go_enter Try.func12, Try.ntmps12
    go_wp2_with fail
    rw [← HW.out]
    refine C4.out.mono ?_
    rintro e w2 ⟨rfl, S', g1, g2, g3⟩
    go_wp2_with fail
    go_ret2
    obtain ⟨e1, e2, e3⟩ := E.out
    exact ⟨by rw [e1, e2]; rfl, S', by rw [e3]; exact g1, out_since g2 HB.out, fun k hk => (g3 k hk).imp (fun x => x) (fun x => Nat.le_trans HB.out.size x)⟩
  · have e : ∀ j : Int, (K.tmod 6 == j) = false → kd ⟨K, id, kf, ki, pl, n⟩ ≠ j := fun j h e => by
      have : K.tmod 6 = j := e
      rw [this] at h
      simp at h
    have E : Hid (doN L ⟨K, id, kf, ki, pl, n⟩ = 0 ∧ doE L ⟨K, id, kf, ki, pl, n⟩ = getE L id ∧ doL L ⟨K, id, kf, ki, pl, n⟩ = markL L id (decide (0 < n))) := by
      show _ ∧ _ ∧ _; unfold doN doE doL
      rw [if_neg (e 0 q0), if_neg (e 2 q2), if_neg (e 0 q0), if_neg (e 1 q1), if_neg (e 2 q2), if_neg (e 3 q3), if_neg (e 0 q0), if_neg (e 1 q1), if_neg (e 2 q2), if_neg (e 3 q3), if_neg (e 4 q4)]
      exact ⟨rfl, rfl, rfl⟩
    clear EN e
    go_enter Try.func12, Try.ntmps12
    go_wp2_with fail
    rw [← HW.out]
    refine C5.out.mono ?_
    rintro e w2 ⟨rfl, S', g1, g2, g3⟩
    go_wp2_with fail
    go_ret2
    obtain ⟨e1, e2, e3⟩ := E.out
    exact ⟨by rw [e1, e2]; rfl, S', by rw [e3]; exact g1, out_since g2 HB.out, fun k hk => (g3 k hk).imp (fun x => x) (fun x => Nat.le_trans HB.out.size x)⟩
end
end Go.Proofs.Ytponlldgnlckfaa
