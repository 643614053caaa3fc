/-
  Two tables side by side.
-/
import Derived.Test.YtaecacbapeogdaaActs
namespace Go.Proofs.Ytaecacbapeogdaa
open Go.RowKit

def Two (w0 w : World) (t : Nat) (W : Tab) (n m : Nat) (c : Nat) (V : Tab) (n2 m2 : Nat) : Prop :=
  ∃ N M, TabIs w t N W n m ∧ TabIs w c M V n2 m2 ∧ Below w0.heap.size w0 w ∧ (∀ b, In N b → w0.heap.size ≤ b) ∧ (∀ b, In M b → w0.heap.size ≤ b) ∧ (∀ b, In N b → ¬ In M b)
section
variable {w0 w w' : World} {t c : Nat} {W V : Tab} {n m n2 m2 : Nat}
theorem Two.swap (h : Two w0 w t W n m c V n2 m2) : Two w0 w c V n2 m2 t W n m := by
  obtain ⟨N, M, h1, h2, h3, h4, h5, h6⟩ := h
  exact ⟨M, N, h2, h1, h3, h5, h4, fun b hM hN => h6 b hN hM⟩
theorem Two.fst (h : Two w0 w t W n m c V n2 m2) : Tb w0 w t W n m := by
  obtain ⟨N, M, h1, h2, h3, h4, h5, h6⟩ := h
  exact ⟨N, h1, h3, h4⟩
theorem Two.snd (h : Two w0 w t W n m c V n2 m2) : Tb w0 w c V n2 m2 := h.swap.fst
theorem Two.bel (h : Two w0 w t W n m c V n2 m2) : Below w0.heap.size w0 w := h.fst.bel
theorem Two.grow (h : Two w0 w t W n m c V n2 m2) (hb : Below w.heap.size w w') : Two w0 w' t W n m c V n2 m2 := by
  obtain ⟨N, M, h1, h2, h3, h4, h5, h6⟩ := h
  exact ⟨N, M, h1.below hb, h2.below hb, h3.trans (hb.mono h3.size), h4, h5, h6⟩
theorem Two.drewN (h : Two w0 w t W n m c V n2 m2) (d : Nat) : Two w0 (w.drewN d) t W n m c V n2 m2 := by
  obtain ⟨N, M, h1, h2, h3, h4, h5, h6⟩ := h
  exact ⟨N, M, h1.drewN d, h2.drewN d, below_drawn h3 d, h4, h5, h6⟩
theorem two_new (h : Tb w0 w t W n m) : Calls Try.prog 11 #[] w fun e w' => ∃ u, e = .returned (.pointer (some ⟨u, 0, none⟩)) ∧ Two w0 w' t W n m u noT 0 0 ∧ Rk w w' := by
  obtain ⟨N, h1, h2, h3⟩ := h
  refine (ptab_new w).mono fun e w' ⟨k1, k2, k3⟩ => ⟨_, k1, ⟨N, N0 w.heap.size, h1.below k3, k2, h2.trans (k3.mono h2.size), h3, ?_, ?_⟩, Rk.below k3⟩
  · rintro b ⟨k, q, hq⟩
    unfold N0 at hq
    split at hq
    · injection hq with hq
      rw [← hq]; exact h2.size
    · cases hq
  · rintro b ⟨j, p, hp⟩ ⟨k, q, hq⟩
    have := h1.heap.lt hp
    unfold N0 at hq
    split at hq
    · injection hq with hq
      omega
    · cases hq
theorem set1 (x v : Int) (h : Two w0 w t W n m c V n2 m2) (hn : n < 100000) :
    Calls Try.prog 14 #[.pointer (some ⟨t, 0, none⟩), .int .i64 x, .int .u64 v] w fun e w' => ∃ n' m', e = .returned (.int .i64 (setE x)) ∧ Two w0 w' t (setI W x v) n' m' c V n2 m2 ∧ n' ≤ n + 1 ∧ Rk w w' := by
  obtain ⟨N, M, h1, h2, h3, h4, h5, h6⟩ := h
  refine (pset t N W n m x v hn w h1).mono fun e w' ⟨N', n', m', k1, k2, k3, k4, k5⟩ => ⟨n', m', k1, ⟨N', M, k2, ⟨h2.heap.turn k4 fun j q b hb hN => h6 b hN ⟨_, _, hb⟩, h2.dom, h2.cnt⟩, h3.trans (k4.below h4 h3.size), ?_, h5, ?_⟩, k3, fun B v k xs hr => own_tab hr rfl h1.heap k4⟩
  · intro b hb
    rcases k5 b hb with h7 | h7
    · exact h4 b h7
    · exact Nat.le_trans h3.size h7
  · rintro b hb ⟨j, q, hM⟩
    rcases k5 b hb with h7 | h7
    · exact h6 b h7 ⟨j, q, hM⟩
    · have := h2.heap.lt hM
      omega
theorem drop1 (x : Int) (h : Two w0 w t W n m c V n2 m2) (hn : n < 100000) :
    Calls Try.prog 12 #[.pointer (some ⟨t, 0, none⟩), .int .i64 x] w fun e w' => ∃ n' m', e = .returned (.bool (getB W x)) ∧ Two w0 w' t (delI W x) n' m' c V n2 m2 ∧ n' ≤ n ∧ Rk w w' := by
  obtain ⟨N, M, h1, h2, h3, h4, h5, h6⟩ := h
  exact (pdropT t N W n m x hn w h1).mono fun e w' ⟨N', n', m', k1, k2, k3, k4, k5⟩ => ⟨n', m', k1, ⟨N', M, k2, ⟨h2.heap.turn k4 fun j q b hb hN => h6 b hN ⟨_, _, hb⟩, h2.dom, h2.cnt⟩, h3.trans (k4.below h4 h3.size), fun b hb => h4 b (k5 b hb), h5, fun b hb => h6 b (k5 b hb)⟩, k3, fun B v k xs hr => own_tab hr rfl h1.heap k4⟩
theorem set2 (x v : Int) (h : Two w0 w t W n m c V n2 m2) (hn : n2 < 100000) :
    Calls Try.prog 14 #[.pointer (some ⟨c, 0, none⟩), .int .i64 x, .int .u64 v] w fun e w' => ∃ n' m', e = .returned (.int .i64 (setE x)) ∧ Two w0 w' t W n m c (setI V x v) n' m' ∧ n' ≤ n2 + 1 ∧ Rk w w' :=
  (set1 x v h.swap hn).mono fun _ _ ⟨n', m', k1, k2, k3, k4⟩ => ⟨n', m', k1, k2.swap, k3, k4⟩
theorem drop2 (x : Int) (h : Two w0 w t W n m c V n2 m2) (hn : n2 < 100000) :
    Calls Try.prog 12 #[.pointer (some ⟨c, 0, none⟩), .int .i64 x] w fun e w' => ∃ n' m', e = .returned (.bool (getB V x)) ∧ Two w0 w' t W n m c (delI V x) n' m' ∧ n' ≤ n2 ∧ Rk w w' :=
  (drop1 x h.swap hn).mono fun _ _ ⟨n', m', k1, k2, k3, k4⟩ => ⟨n', m', k1, k2.swap, k3, k4⟩
theorem get1 (x : Int) (h : Two w0 w t W n m c V n2 m2) :
    Calls Try.prog 16 #[.pointer (some ⟨t, 0, none⟩), .int .i64 x] w fun e w' => e = .returned (.tuple #[.int .u64 (getX W x), .bool (getB W x)]) ∧ Two w0 w' t W n m c V n2 m2 ∧ Below w.heap.size w w' :=
  (getO x h.fst).mono fun _ _ ⟨k1, _, k3⟩ => ⟨k1, h.grow k3, k3⟩
theorem get2 (x : Int) (h : Two w0 w t W n m c V n2 m2) :
    Calls Try.prog 16 #[.pointer (some ⟨c, 0, none⟩), .int .i64 x] w fun e w' => e = .returned (.tuple #[.int .u64 (getX V x), .bool (getB V x)]) ∧ Two w0 w' t W n m c V n2 m2 ∧ Below w.heap.size w w' :=
  (getO x h.snd).mono fun _ _ ⟨k1, _, k3⟩ => ⟨k1, h.grow k3, k3⟩
theorem walk1 (a b : Int) (h : Two w0 w t W n m c V n2 m2) (hn : n < 100000) :
    Calls Try.prog 22 #[.pointer (some ⟨t, 0, none⟩), .int .i64 a, .int .i64 b] w fun e w' => ∃ v l, e = .returned v ∧ IsWalk W a b l ∧ w'.ownsRow w.heap.size 3 1 v l.length (l.map iv) ∧ Below w.heap.size w w' ∧ Two w0 w' t W n m c V n2 m2 ∧ l.length ≤ n :=
  (walkT a b h.fst hn).mono fun _ _ ⟨v, l, k1, k2, k3, k4, _, k6⟩ => ⟨v, l, k1, k2, k3, k4, h.grow k4, k6⟩
end

/-! ### many are set -/
def setsW (l : List Ac) : Tab := l.foldl (fun W e => setI W e.p e.x) noT
theorem setsW_take (l : List Ac) (i : Nat) (h : i < l.length) : setsW (l.take (i + 1)) = setI (setsW (l.take i)) l[i].p l[i].x := by
  unfold setsW
  rw [← List.take_append_getElem h, List.foldl_append]
  rfl
theorem setI_some {W : Tab} {p x : Int} {q : Nat} {y : Int} : setI W p x q = some y ↔ (p = q ∧ q < 65536 ∧ x = y) ∨ (¬ (p = q ∧ q < 65536) ∧ W q = some y) := by
  unfold setI
  cases h : isPg p with
  | false =>
    have hn : ¬ (p = q ∧ q < 65536) := by
      rintro ⟨rfl, h2⟩
      rw [isPg_nat h2] at h
      cases h
    constructor
    · intro h1; exact .inr ⟨hn, h1⟩
    · rintro (⟨h1, h2, _⟩ | ⟨_, h1⟩)
      · exact absurd ⟨h1, h2⟩ hn
      · exact h1
  | true =>
    obtain ⟨r, rfl, hr⟩ := isPg_true h
    rw [if_pos rfl, Int.toNat_natCast]
    by_cases e : q = r
    · subst e
      rw [setW_same]
      constructor
      · intro h1
        injection h1 with h1
        exact .inl ⟨rfl, hr, h1⟩
      · rintro (⟨_, _, h1⟩ | ⟨h1, _⟩)
        · rw [h1]
        · exact absurd ⟨rfl, hr⟩ h1
    · rw [setW_other _ _ e]
      constructor
      · intro h1
        exact .inr ⟨fun h2 => e (by omega), h1⟩
      · rintro (⟨h1, _, _⟩ | ⟨_, h1⟩)
        · omega
        · exact h1
theorem setsW_snoc (l : List Ac) (e : Ac) : setsW (l ++ [e]) = setI (setsW l) e.p e.x := by
  unfold setsW
  rw [List.foldl_append]
  rfl
theorem sets_mem {l : List Ac} (h : l.Pairwise (fun a b => a.p ≠ b.p)) (q : Nat) (y : Int) : setsW l q = some y ↔ ∃ e ∈ l, e.p = q ∧ q < 65536 ∧ e.x = y := by
  suffices H : ∀ r : List Ac, r.reverse.Pairwise (fun a b => a.p ≠ b.p) → (setsW r.reverse q = some y ↔ ∃ e ∈ r, e.p = q ∧ q < 65536 ∧ e.x = y) by
    have := H l.reverse (by rw [List.reverse_reverse]; exact h)
    rw [List.reverse_reverse] at this
    rw [this]
    simp
  intro r
  induction r with
  | nil => intro _; simp [setsW, noT]
  | cons e r ih =>
    intro hp
    rw [List.reverse_cons] at hp ⊢
    rw [List.pairwise_append] at hp
    rw [setsW_snoc, setI_some, ih hp.1]
    constructor
    · rintro (h1 | ⟨_, e', he', h2⟩)
      · exact ⟨e, by simp, h1⟩
      · exact ⟨e', by simp [he'], h2⟩
    · rintro ⟨e', he', h2⟩
      rcases List.mem_cons.1 he' with rfl | he'
      · exact .inl h2
      · refine .inr ⟨fun h3 => ?_, e', he', h2⟩
        exact hp.2.2 e' (by simpa using he') e (by simp) (by rw [h2.1, h3.1])
theorem sets_reverse {l : List Ac} (h : l.Pairwise (fun a b => a.p ≠ b.p)) : setsW l.reverse = setsW l := by
  have h' : l.reverse.Pairwise (fun a b => a.p ≠ b.p) := List.pairwise_reverse.2 (h.imp fun hab => Ne.symm hab)
  funext q
  apply Option.ext
  intro y
  rw [sets_mem h', sets_mem h]
  simp
end Go.Proofs.Ytaecacbapeogdaa
