/-
  The program's table keeps to what the laws want of it.
-/
import Derived.Test.YtponlldgnlckfaaP12
set_option maxRecDepth 100000
namespace Go.Proofs.Ytponlldgnlckfaa
open Go.RowKit

theorem wf_app {L : List Pg} (h : Wf L) {x : Pg} (hx : (Lit.int .i64 x.kf).wf = true ∧ (Lit.int .i64 x.ki).wf = true ∧ (Lit.int .i64 x.at').wf = true) : Wf (L ++ [x]) := by
  intro k hk
  by_cases e : k < L.length
  · rw [pg_app x e]; exact h k e
  · have : k = L.length := by simp at hk; omega
    subst this
    rw [pg_last]; exact hx
theorem wf_setL {L : List Pg} (h : Wf L) {id : Int} {g : Pg → Pg} (h1 : ∀ q, (g q).kf = q.kf) (h2 : ∀ q, (g q).ki = q.ki) (h3 : ∀ q, (Lit.int .i64 q.at').wf = true → (Lit.int .i64 (g q).at').wf = true) : Wf (setL L id g) := by
  intro k hk
  unfold setL at *
  rw [List.length_set] at hk
  by_cases e : id.toNat < L.length
  · rw [pg_set e]
    by_cases e2 : k = id.toNat
    · rw [if_pos e2, h1, h2]
      have := h _ e
      exact ⟨this.1, this.2.1, h3 _ this.2.2⟩
    · rw [if_neg e2]; exact h k hk
  · rw [List.set_eq_of_length_le (by omega)]; exact h k hk
theorem wf_makeL {L : List Pg} (h : Wf L) (hL : L.length < 900000) {f i : Int} (o : Int) (hf : (Lit.int .i64 f).wf = true) (hi : (Lit.int .i64 i).wf = true) : Wf (makeL L f i o) := by
  unfold makeL
  split
  · exact h
  · refine wf_app h ?_
    unfold newPg
    split
    · exact ⟨hf, hi, (by decide : (Lit.int .i64 0).wf = true)⟩
    · exact ⟨(by decide : (Lit.int .i64 (-1)).wf = true), WalkArith.wf_i64 (by simp; omega), (by decide : (Lit.int .i64 0).wf = true)⟩
theorem wf_putL {L : List Pg} (h : Wf L) {id p a : Int} (ha : (Lit.int .i64 a).wf = true) : Wf (putL L id p a) := by
  unfold putL
  split
  · exact wf_setL h (fun _ => rfl) (fun _ => rfl) (fun _ _ => ha)
  · exact h
theorem wf_refL {L : List Pg} (h : Wf L) (id n : Int) : Wf (refL L id n) := by
  unfold refL
  split
  · exact wf_setL h (fun _ => rfl) (fun _ => rfl) (fun _ h => h)
  · exact h
theorem wf_dropL {L : List Pg} (h : Wf L) (id : Int) : Wf (dropL L id) := by
  unfold dropL
  split
  · exact wf_setL h (fun _ => rfl) (fun _ => rfl) (fun _ h => h)
  · exact h
theorem wf_ownL {L : List Pg} (h : Wf L) (id o : Int) : Wf (ownL L id o) := by
  unfold ownL
  split
  · exact wf_setL h (fun _ => rfl) (fun _ => rfl) (fun _ h => h)
  · exact h
theorem wf_markL {L : List Pg} (h : Wf L) (id : Int) (d : Bool) : Wf (markL L id d) := by
  unfold markL
  split
  · exact wf_setL h (fun _ => rfl) (fun _ => rfl) (fun _ h => h)
  · exact h

/-- The table as the laws see it. -/
def TbQ (w0 w : World) (t : Nat) (S : Nat → Prop) (L : List Pg) : Prop := ∃ mp mf ms, PT w0 w t mp mf ms L ∧ Wf L ∧ S = Fo t mp mf ms
theorem tbI : TbI TbQ where
  lt := by
    rintro w0 w t S L k ⟨mp, mf, ms, h, -, rfl⟩ hk
    obtain ⟨l1, l2, l3, l4⟩ := h.lt
    rcases hk with rfl | rfl | rfl | rfl <;> assumption
  lo := by
    rintro w0 w t S L k ⟨mp, mf, ms, h, -, rfl⟩ hk
    obtain ⟨l1, l2, l3, l4⟩ := h.lo
    rcases hk with rfl | rfl | rfl | rfl <;> assumption
  bel := by
    rintro w0 w t S L ⟨mp, mf, ms, h, -, rfl⟩
    exact h.bel
  dob := by
    rintro w0 w t S L k o ⟨mp, mf, ms, h, -, rfl⟩ hk ho
    rcases hk with rfl | rfl | rfl | rfl
    · have hr := h.h
      unfold RowAt at hr
      rw [hr] at ho
      injection ho with ho
      rw [← ho]; rfl
    · exact h.p.dob ho
    · exact h.f.dob ho
    · exact h.s.dob ho
  keep := by
    rintro w0 w w' t S L ⟨mp, mf, ms, h, hw, rfl⟩ hb hs hk
    refine ⟨mp, mf, ms, ⟨?_, h.p.block (hk _ (Or.inr (Or.inl rfl))), h.f.block (hk _ (Or.inr (Or.inr (Or.inl rfl)))), h.s.block (hk _ (Or.inr (Or.inr (Or.inr rfl)))), h.ne, h.lo, hb⟩, hw, rfl⟩
    have hr := h.h
    unfold RowAt at *
    rw [hk t (Or.inl rfl)]; exact hr
  new := by
    intro w0 w hb
    refine (pnew w0 w hb).mono ?_
    rintro e w' ⟨t, mp, mf, ms, rfl, h, h2⟩
    exact ⟨t, _, rfl, ⟨mp, mf, ms, h, fun k hk => absurd hk (Nat.not_lt_zero k), rfl⟩, h2⟩
  get := by
    rintro w0 w t S L ⟨mp, mf, ms, h, -, rfl⟩ id hi
    exact pget h hi
  of := by
    rintro w0 w t S L ⟨mp, mf, ms, h, -, rfl⟩ f i hf hi
    exact pof h hf hi
  att := by
    rintro w0 w t S L ⟨mp, mf, ms, h, -, rfl⟩ p a hp ha
    refine (patt h hp ha).mono ?_
    rintro e w' ⟨he, rfl⟩
    exact ⟨he, Below.refl _ _⟩
  those := by
    rintro w0 w t S L ⟨mp, mf, ms, h, -, rfl⟩ hL o ho
    exact pthose h hL o
  all := by
    rintro w0 w t S L ⟨mp, mf, ms, h, -, rfl⟩ hL
    exact pall h hL
  make := by
    rintro w0 w t S L M ⟨mp, mf, ms, h, hw, rfl⟩ hO hM hL f i o hf hi ho
    refine (pmake h hL hf hi).mono ?_
    rintro e w' ⟨he, h1, h2⟩
    exact ⟨he, _, ⟨mp, mf, ms, h1, wf_makeL hw hL o hf hi, rfl⟩, h2, fun k hk => Or.inl hk⟩
  put := by
    rintro w0 w t S L M ⟨mp, mf, ms, h, hw, rfl⟩ hO hM hL id p a hi hp ha
    refine (pput h hO hw hL hi hp ha).mono ?_
    rintro e w' ⟨he, h1, h2⟩
    exact ⟨he, _, ⟨mp, mf, ms, h1, wf_putL hw ha, rfl⟩, h2, fun k hk => Or.inl hk⟩
  ref := by
    rintro w0 w t S L M ⟨mp, mf, ms, h, hw, rfl⟩ hO hM hL id n hi hn
    refine (pref h hO hM hL hi).mono ?_
    rintro e w' ⟨he, h1, h2⟩
    exact ⟨he, _, ⟨mp, mf, ms, h1, wf_refL hw id n, rfl⟩, h2, fun k hk => Or.inl hk⟩
  drop := by
    rintro w0 w t S L M ⟨mp, mf, ms, h, hw, rfl⟩ hO hM hL id hi
    refine (pdrop h hO hw hi).mono ?_
    rintro e w' ⟨he, h1, h2⟩
    exact ⟨he, _, ⟨mp, mf, ms, h1, wf_dropL hw id, rfl⟩, h2, fun k hk => Or.inl hk⟩
  own := by
    rintro w0 w t S L M ⟨mp, mf, ms, h, hw, rfl⟩ hO hM hL id o hi ho
    refine (pown h hL hi).mono ?_
    rintro e w' ⟨he, h1, h2⟩
    exact ⟨he, _, ⟨mp, mf, ms, h1, wf_ownL hw id o, rfl⟩, h2, fun k hk => Or.inl hk⟩
  mark := by
    rintro w0 w t S L M ⟨mp, mf, ms, h, hw, rfl⟩ hO hM hL id d hi
    refine (pmark h hL hi).mono ?_
    rintro e w' ⟨he, h1, h2⟩
    exact ⟨he, _, ⟨mp, mf, ms, h1, wf_markL hw id d, rfl⟩, h2, fun k hk => Or.inl hk⟩
end Go.Proofs.Ytponlldgnlckfaa
