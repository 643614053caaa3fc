/-
  The document's lists as they lie in memory: a row of structs of three integers; the contracts of its Find, Get, Count.
-/
import Derived.Test.YtfmgmelgfnppkaaP10
namespace Go.Proofs.Ytfmgmelgfnppkaa
open Go.RowKit

def nc (x : En) : List Value := [.int .i64 x.i, .int .i64 x.g, .int .i64 x.a]
def nz : En := ⟨0, 0, 0⟩
def flatN (L : List En) : List Value := L.flatMap nc
theorem flatN_len (L : List En) : (flatN L).length = L.length * 3 := by
  unfold flatN
  induction L with
  | nil => rfl
  | cons e L ih => rw [List.flatMap_cons, List.length_append, ih, List.length_cons]; simp [nc]; omega
theorem flatN_append (A B : List En) : flatN (A ++ B) = flatN A ++ flatN B := by simp [flatN]
theorem flatN_at (L : List En) (j i : Nat) (hj : j < L.length) (hi : i < 3) : (flatN L)[j * 3 + i]? = (nc (L.getD j nz))[i]? := by
  induction L generalizing j with
  | nil => simp at hj
  | cons e L ih =>
    have hl : (nc e).length = 3 := rfl
    cases j with
    | zero =>
      show (nc e ++ flatN L)[0 * 3 + i]? = _
      rw [Nat.zero_mul, Nat.zero_add, List.getElem?_append_left (by omega)]
      rfl
    | succ j =>
      show (nc e ++ flatN L)[(j + 1) * 3 + i]? = _
      rw [List.getElem?_append_right (by omega), hl]
      have : (j + 1) * 3 + i - 3 = j * 3 + i := by omega
      rw [this, ih j (by simpa using hj)]
      rfl
theorem flatN_one (L : List En) : ∀ u ∈ flatN L, u.oneCell' = true := by
  intro u hu
  obtain ⟨x, _, h⟩ := List.mem_flatMap.1 hu
  simp only [nc, List.mem_cons, List.not_mem_nil, or_false] at h
  rcases h with rfl | rfl | rfl <;> rfl
theorem flatN_set (L : List En) (i k : Nat) (y : En) (v : Value) (hi : i < L.length) (hk : k < 3) (hy : nc y = (nc (L.getD i nz)).set k v) : (flatN L).set (i * 3 + k) v = flatN (L.set i y) := by
  apply List.ext_getElem?
  intro j
  have hj3 : j / 3 * 3 + j % 3 = j := by omega
  by_cases hj : j < L.length * 3
  · have hjl : j / 3 < L.length := by omega
    have hm : j % 3 < 3 := Nat.mod_lt _ (by decide)
    have e2 := flatN_at (L.set i y) (j / 3) (j % 3) (by simpa using hjl) hm
    rw [hj3] at e2
    rw [e2]
    have e1 := flatN_at L (j / 3) (j % 3) hjl hm
    rw [hj3] at e1
    by_cases hq : j / 3 = i
    · have eg : (L.set i y).getD (j / 3) nz = y := by rw [hq]; simp [hi]
      rw [eg, hy]
      by_cases hr : j % 3 = k
      · have : i * 3 + k = j := by omega
        rw [this, List.getElem?_set_self (by rw [flatN_len]; exact hj), hr]
        have : k < (nc (L.getD i nz)).length := hk
        rw [List.getElem?_set_self this]
      · rw [List.getElem?_set_ne (by omega), e1, List.getElem?_set_ne (by omega), hq]
    · have eg : (L.set i y).getD (j / 3) nz = L.getD (j / 3) nz := by
        simp only [List.getD_eq_getElem?_getD]
        rw [List.getElem?_set_ne (fun e => hq e.symm)]
      rw [eg, List.getElem?_set_ne (by omega), e1]
  · rw [List.getElem?_eq_none (by rw [List.length_set, flatN_len]; omega), List.getElem?_eq_none (by rw [flatN_len, List.length_set]; omega)]


theorem info54 : (Try.prog.info? 54).map (fun i => (i.zero, i.size, i.bytes)) = some (some (.agg #[.int .i64 0, .int .i64 0, .int .i64 0]), 3, 24) := by kernel_rfl

/-- The document's lists at block r, all that they have from block B on. -/
structure RefIs (B : Nat) (w : World) (r : Nat) (L : List En) : Prop where
  h : ∃ v, RowAt w r 30 [v] ∧ w.ownsRow B 54 3 v L.length (flatN L)
  lo : B ≤ r
  ok : Ok L
section
variable {B : Nat} {w w' : World} {r : Nat} {L : List En}
theorem RefIs.below (h : RefIs B w r L) (hb : Below w.heap.size w w') : RefIs B w' r L := by
  obtain ⟨v, h1, h2⟩ := h.h
  exact ⟨⟨v, h1.below hb h1.lt, own_below h2 hb⟩, h.lo, h.ok⟩
theorem RefIs.drewN (h : RefIs B w r L) (n : Nat) : RefIs B (w.drewN n) r L := h.below ⟨rfl, rfl, rfl, Nat.le_refl _, fun _ _ => rfl⟩
theorem RefIs.lt (h : RefIs B w r L) : r < w.heap.size := by
  obtain ⟨v, h1, h2⟩ := h.h
  exact h1.lt
/-- Another one's map turns. -/
theorem RefIs.apart {m : Nat} {M : List En} (h : RefIs B w r L) (hm : MapIs w m M) (ha : Apart m w w') : RefIs B w' r L := by
  obtain ⟨v, h1, h2⟩ := h.h
  refine ⟨⟨v, h1.apart ha (hm.not_row h1), own_turn h2 fun k cur hk hc => ?_⟩, h.lo, h.ok⟩
  have hr : RowAt w k 54 cur.toList := by unfold RowAt; simpa using hc
  exact (ha.block k hr.lt (hm.not_row hr)).trans hc
theorem RefIs.open (h : RefIs B w r L) : ∃ a cap, w.cell? ⟨r, 0, none⟩ = some (.slice a L.length cap) ∧
    (∀ k, k < L.length → ∃ g, a = some ⟨g, 0, none⟩ ∧ w.cell? ⟨g, k * 3, none⟩ = some (.int .i64 (L.getD k nz).i) ∧ w.cell? ⟨g, k * 3 + 1, none⟩ = some (.int .i64 (L.getD k nz).g) ∧ w.cell? ⟨g, k * 3 + 2, none⟩ = some (.int .i64 (L.getD k nz).a)) ∧
    w.ownsRow B 54 3 (.slice a L.length cap) L.length (flatN L) ∧ RowAt w r 30 [.slice a L.length cap] := by
  obtain ⟨v, h1, h2⟩ := h.h
  obtain ⟨a, cap, rfl, h3⟩ := own_form h2
  refine ⟨a, cap, by rw [h1.cell]; rfl, fun k hk => ?_, h2, h1⟩
  obtain ⟨g, rfl, h4⟩ := h3 (by omega)
  have e0 := flatN_at L k 0 hk (by omega)
  rw [Nat.add_zero] at e0
  exact ⟨g, rfl, by rw [h4 _ (by omega), e0]; rfl, by rw [h4 _ (by omega), flatN_at L k 1 hk (by omega)]; rfl, by rw [h4 _ (by omega), flatN_at L k 2 hk (by omega)]; rfl⟩
end

/-- Where an id is. -/
def fi (L : List En) (i : Int) : Int := match L.findIdx? fun x => x.i == i with | none => -1 | some k => k
theorem fi_at {L : List En} {i : Int} {k : Nat} (hk : k < L.length) (h1 : (L.getD k nz).i = i) (h2 : ∀ j, j < k → (L.getD j nz).i ≠ i) : fi L i = k := by
  have : L.findIdx? (fun x => x.i == i) = some k := by
    rw [List.findIdx?_eq_some_iff_getElem]
    refine ⟨hk, by simpa [hk] using h1, fun j hj => ?_⟩
    have hjl : j < L.length := by omega
    simpa [hjl] using h2 j hj
  unfold fi
  rw [this]
theorem fi_no {L : List En} {i : Int} (h : ∀ j, j < L.length → (L.getD j nz).i ≠ i) : fi L i = -1 := by
  have : L.findIdx? (fun x => x.i == i) = none := by
    rw [List.findIdx?_eq_none_iff]
    intro x hx
    obtain ⟨j, hj, rfl⟩ := List.getElem_of_mem hx
    simpa [hj] using h j hj
  unfold fi
  rw [this]
/-- It is there, or it is not. -/
theorem fi_cases {L : List En} (hs : Srt L) (i : Int) : (fi L i = -1 ∧ lk L i = none) ∨ ∃ k : Nat, k < L.length ∧ fi L i = k ∧ lk L i = some (L.getD k nz) := by
  by_cases h : ∃ k, k < L.length ∧ (L.getD k nz).i = i
  · obtain ⟨k, hk, he⟩ := h
    right
    have hget : L.getD k nz = L[k] := by simp [hk]
    refine ⟨k, hk, fi_at hk he fun j hj e => ?_, ?_⟩
    · have hjl : j < L.length := by omega
      have := List.pairwise_iff_getElem.1 hs j k hjl hk hj
      have e1 : L.getD j nz = L[j] := by simp [hjl]
      rw [e1] at e
      rw [hget] at he
      omega
    · rw [hget] at he ⊢
      exact (lk_iff hs).2 ⟨List.getElem_mem hk, he⟩
  · left
    have hn : ∀ j, j < L.length → (L.getD j nz).i ≠ i := fun j hj e => h ⟨j, hj, e⟩
    refine ⟨fi_no hn, lk_none.2 fun x hx e => ?_⟩
    obtain ⟨j, hj, rfl⟩ := List.getElem_of_mem hx
    exact hn j hj (by simpa [hj] using e)

set_option maxHeartbeats 1000000 in
theorem rfind (B r : Nat) (L : List En) (i : Int) (w : World) (h : RefIs B w r L) (hL : L.length < 1000000) :
    Calls Try.prog 31 #[.pointer (some ⟨r, 0, none⟩), .int .i64 i] w fun e w' => e = .returned (.int .i64 (fi L i)) ∧ w' = w := by
  obtain ⟨a, cap, hc, hat, -, -⟩ := h.open
  have HA : Hid (∀ k, k < L.length → ∃ g, a = some ⟨g, 0, none⟩ ∧ w.cell? ⟨g, k * 3, none⟩ = some (.int .i64 (L.getD k nz).i) ∧ w.cell? ⟨g, k * 3 + 1, none⟩ = some (.int .i64 (L.getD k nz).g) ∧ w.cell? ⟨g, k * 3 + 2, none⟩ = some (.int .i64 (L.getD k nz).a)) := hat
  clear h hat
  go_enter Try.func31, Try.ntmps31
  go_wp2_with fail
  go_loopw [5] (fun s5 wr => ∃ k : Nat, k ≤ L.length ∧ s5 = .int .i64 k ∧ (∀ j, j < k → (L.getD j nz).i ≠ i) ∧ wr = w) (fun s5 _ => L.length - (intOf s5).toNat)
  case atStart => exact ⟨0, by omega, rfl, fun j hj => by omega, rfl⟩
  case round =>
    obtain ⟨k, hk, rfl, hs, rfl⟩ := hrel
    have HS : Hid (∀ j, j < k → (L.getD j nz).i ≠ i) := hs
    clear hs
    by_cases hkl : k < L.length
    · have hd : decide ((k : Int) < (L.length : Int)) = true := by simp; omega
      obtain ⟨g, rfl, k0, -, -⟩ := HA.out k hkl
      obtain ⟨x, hx⟩ : ∃ x, x = (L.getD k nz).i := ⟨_, rfl⟩
      rw [← hx] at k0
      have HX : Hid (x = (L.getD k nz).i) := hx
      clear hx
      by_cases he : x = i
      · have hq : (x == i) = true := by simpa using he
        have HF : Hid (fi L i = k) := fi_at hkl (by rw [← HX.out]; exact he) HS.out
        clear he
        go_wp2
        go_ret
        exact ⟨by rw [HF.out]; rfl, rfl⟩
      · have hq : (x == i) = false := by simpa using he
        have HN : Hid (∀ j, j < k + 1 → (L.getD j nz).i ≠ i) := fun j hj => by
          by_cases hjk : j = k
          · subst hjk; rw [← HX.out]; exact he
          · exact HS.out j (by omega)
        clear he
        go_wp2
        exact ⟨⟨k + 1, by omega, by go_num, HN.out, trivial⟩, by simp [intOf]; omega⟩
    · obtain rfl : k = L.length := by omega
      have hd : decide ((L.length : Int) < (L.length : Int)) = false := by simp
      have HF : Hid (fi L i = -1) := fi_no HS.out
      go_wp2
      go_ret
      exact ⟨by rw [HF.out]; rfl, rfl⟩
end Go.Proofs.Ytfmgmelgfnppkaa
