/-
  The contracts of the document's Get, Count, Touch.
-/
import Derived.Test.YtfmgmelgfnppkaaR1
namespace Go.Proofs.Ytfmgmelgfnppkaa
open Go.RowKit

theorem getD_mem {L : List En} {k : Nat} (hk : k < L.length) : L.getD k nz ∈ L := by simp [hk]

set_option maxHeartbeats 1000000 in
theorem rget (B r : Nat) (L : List En) (i : Int) (w : World) (h : RefIs B w r L) (hL : L.length < 1000000) :
    Calls Try.prog 13 #[.pointer (some ⟨r, 0, none⟩), .int .i64 i] w fun e w' => e = .returned (.tuple #[.int .i64 (grpN L i), .int .i64 (oldN L i)]) ∧ ∃ n, w' = w.drewN n := by
  have HF : Hid (Calls Try.prog 31 #[.pointer (some ⟨r, 0, none⟩), .int .i64 i] w fun e w' => e = .returned (.int .i64 (fi L i)) ∧ w' = w) := rfind B r L i w h hL
  rcases fi_cases h.ok.srt i with ⟨e1, e2⟩ | ⟨k, hk, e1, e2⟩
  · rw [e1] at HF
    rw [grpN_none e2, oldN_none e2]
    clear e1 e2 h
    go_enter Try.func13, Try.ntmps13
    go_wp2_with fail
    refine HF.out.mono ?_
    rintro e w1 ⟨rfl, rfl⟩
    go_wp2
    go_ret2
    exact ⟨rfl, 0, rfl⟩
  · rw [e1] at HF
    rw [grpN_some e2, oldN_some e2]
    obtain ⟨a, cap, hc, hat, -, -⟩ := h.open
    obtain ⟨g, rfl, -, k1, k2⟩ := hat k hk
    obtain ⟨x, hx⟩ : ∃ x, x = (L.getD k nz).g := ⟨_, rfl⟩
    obtain ⟨y, hy⟩ : ∃ y, y = (L.getD k nz).a := ⟨_, rfl⟩
    rw [← hx] at k1 ⊢
    rw [← hy] at k2 ⊢
    have hd : decide ((k : Int) < 0) = false := by simp
    clear hx hy e1 e2 hat h
    go_enter Try.func13, Try.ntmps13
    go_wp2_with fail
    refine HF.out.mono ?_
    rintro e w1 ⟨rfl, rfl⟩
    go_wp2_with fail
    go_quiet (fail)
    go_wp2
    go_ret2
    exact ⟨rfl, _, rfl⟩

set_option maxHeartbeats 1000000 in
theorem rcount (B r : Nat) (L : List En) (g : Int) (w : World) (h : RefIs B w r L) (hL : L.length < 1000000) :
    Calls Try.prog 15 #[.pointer (some ⟨r, 0, none⟩), .int .i64 g] w fun e w' => e = .returned (.int .i64 (cntL L g : Nat)) ∧ w' = w := by
  obtain ⟨a, cap, hc, hat, -, -⟩ := h.open
  have HA : Hid (∀ k, k < L.length → ∃ g, a = some ⟨g, 0, none⟩ ∧ w.cell? ⟨g, k * 3, none⟩ = some (.int .i64 (L.getD k nz).i) ∧ w.cell? ⟨g, k * 3 + 1, none⟩ = some (.int .i64 (L.getD k nz).g) ∧ w.cell? ⟨g, k * 3 + 2, none⟩ = some (.int .i64 (L.getD k nz).a)) := hat
  have HN : Hid (∀ k, (L.take k).countP (fun x => x.g == g) ≤ k) := fun k => Nat.le_trans List.countP_le_length (by simp; omega)
  clear h hat
  go_enter Try.func15, Try.ntmps15
  go_wp2_with fail
  go_loopw [5, 6] (fun s5 s6 wr => ∃ k n : Nat, k ≤ L.length ∧ s6 = .int .i64 k ∧ s5 = .int .i64 n ∧ n = (L.take k).countP (fun x => x.g == g) ∧ wr = w) (fun _ s6 _ => L.length - (intOf s6).toNat)
  case atStart => exact ⟨0, 0, by omega, rfl, rfl, rfl, rfl⟩
  case round =>
    obtain ⟨k, n, hk, rfl, rfl, hn, rfl⟩ := hrel
    have hnk := HN.out k
    rw [← hn] at hnk
    have HC : Hid (n = (L.take k).countP (fun x => x.g == g)) := hn
    clear hn
    by_cases hkl : k < L.length
    · have hd : decide ((k : Int) < (L.length : Int)) = true := by simp; omega
      obtain ⟨b, rfl, -, k1, -⟩ := HA.out k hkl
      have HS : Hid (L.take (k + 1) = L.take k ++ [L.getD k nz]) := by show _ = _; simp [hkl]
      obtain ⟨x, hx⟩ : ∃ x, x = (L.getD k nz).g := ⟨_, rfl⟩
      rw [← hx] at k1
      have HX : Hid (x = (L.getD k nz).g) := hx
      clear hx
      by_cases he : x = g
      · have hq : (x == g) = true := by simpa using he
        have HC1 : Hid (n + 1 = (L.take (k + 1)).countP (fun x => x.g == g)) := by show _ = _; rw [HS.out, List.countP_append, ← HC.out, List.countP_singleton, ← HX.out, hq]; rfl
        clear he
        go_wp2
        exact ⟨⟨k + 1, n + 1, by omega, by go_num, by go_num, HC1.out, trivial⟩, by simp [intOf]; omega⟩
      · have hq : (x == g) = false := by simpa using he
        have HC1 : Hid (n = (L.take (k + 1)).countP (fun x => x.g == g)) := by show _ = _; rw [HS.out, List.countP_append, ← HC.out, List.countP_singleton, ← HX.out, hq]; rfl
        clear he
        go_wp2
        exact ⟨⟨k + 1, n, by omega, by go_num, by go_num, HC1.out, trivial⟩, by simp [intOf]; omega⟩
    · obtain rfl : k = L.length := by omega
      have hd : decide ((L.length : Int) < (L.length : Int)) = false := by simp
      have HF : Hid (n = cntL L g) := by show _ = _; rw [HC.out, List.take_length]; rfl
      go_wp2
      go_ret
      exact ⟨by rw [← HF.out]; rfl, rfl⟩

/-! ### one place written -/
section
variable {B : Nat} {w w' : World} {r : Nat} {L : List En}
theorem RefIs.turn (h : RefIs B w r L) {a : Option Addr} {cap g : Nat} (ha : a = some ⟨g, 0, none⟩) (hown : w.ownsRow B 54 3 (.slice a L.length cap) L.length (flatN L)) (hrow : RowAt w r 30 [.slice a L.length cap])
    {k j : Nat} {v : Value} {y : En} (hk : k < L.length) (hj : j < 3) (hy : nc y = (nc (L.getD k nz)).set j v) (ho : Ok (L.set k y)) : RefIs B (w.setCell ⟨g, k * 3 + j, none⟩ v) r (L.set k y) ∧ Below B w (w.setCell ⟨g, k * 3 + j, none⟩ v) := by
  subst ha
  obtain ⟨o1, g1⟩ := hown.stored (k * 3 + j) v
  obtain ⟨l1, l2⟩ := hown.lt g rfl
  rw [flatN_set L k j y v hk hj hy] at o1
  have hne : r ≠ g := by
    rintro rfl
    obtain ⟨_, h2⟩ := hown
    rcases h2 with ⟨h2, _⟩ | ⟨g', cp, cur, h2, _, h3, _⟩
    · cases h2
    · injection h2 with h2
      injection h2 with h2
      injection h2 with h2
      subst h2
      unfold RowAt at hrow
      rw [hrow] at h3
      injection h3 with h3
      injection h3 with _ h3
      cases h3
  refine ⟨⟨⟨_, by have := hrow.other (c := g) hne (k * 3 + j) v; simpa using this, by simpa using o1⟩, h.lo, ho⟩, ?_⟩
  exact (But.setCell g (k * 3 + j) w v).below l1
end
theorem touch_set {L : List En} (h : Srt L) {k : Nat} (hk : k < L.length) {i : Int} (hl : lk L i = some (L.getD k nz)) : L.set k ⟨(L.getD k nz).i, (L.getD k nz).g, 0⟩ = touchL L i := by
  have hi := (lk_some hl).2
  apply List.ext_getElem
  · simp [touchL, turn_len]
  · intro j h1 h2
    have hj : j < L.length := by simpa using h1
    have e1 : L.getD k nz = L[k] := by simp [hk]
    rw [e1] at hi
    rw [List.getElem_set]
    simp only [touchL, turn, List.getElem_map]
    by_cases hkj : k = j
    · subst hkj
      rw [if_pos rfl, e1]
      simp [tou, hi]
    · rw [if_neg hkj]
      have : L[j].i ≠ i := by
        intro e
        have := List.pairwise_iff_getElem.1 h
        rcases Nat.lt_or_gt_of_ne hkj with hlt | hlt
        · have := this k j hk hj hlt; omega
        · have := this j k hj hk hlt; omega
      simp [tou, this]

set_option maxHeartbeats 1000000 in
theorem rtouch (B r : Nat) (L : List En) (i : Int) (w : World) (h : RefIs B w r L) (hL : L.length < 1000000) :
    Calls Try.prog 27 #[.pointer (some ⟨r, 0, none⟩), .int .i64 i] w fun e w' => e = .returned (.int .i64 (noneE L i)) ∧ RefIs B w' r (touchL L i) ∧ Below B w w' := by
  have HF : Hid (Calls Try.prog 31 #[.pointer (some ⟨r, 0, none⟩), .int .i64 i] w fun e w' => e = .returned (.int .i64 (fi L i)) ∧ w' = w) := rfind B r L i w h hL
  rcases fi_cases h.ok.srt i with ⟨e1, e2⟩ | ⟨k, hk, e1, e2⟩
  · rw [e1] at HF
    have HE : Hid (noneE L i = 2) := noneE_none (by rw [e2]; rfl)
    have HB : Hid (touchL L i = L) := touchL_none e2
    have H0 : Hid (RefIs B w r L) := h
    clear e1 e2 h
    go_enter Try.func27, Try.ntmps27
    go_wp2_with fail
    refine HF.out.mono ?_
    rintro e w1 ⟨rfl, rfl⟩
    go_wp2
    go_ret
    exact ⟨by rw [HE.out]; rfl, by rw [HB.out]; exact H0.out, Below.refl _ _⟩
  · rw [e1] at HF
    have HE : Hid (noneE L i = 0) := noneE_some (by rw [e2]; rfl)
    have HT := touch_set h.ok.srt hk e2
    obtain ⟨a, cap, hc, hat, hown, hrow⟩ := h.open
    obtain ⟨g, ha, -, -, k2⟩ := hat k hk
    have hres := h.turn ha hown hrow (k := k) (j := 2) (v := .int .i64 0) (y := ⟨(L.getD k nz).i, (L.getD k nz).g, 0⟩) hk (by omega) rfl (by rw [HT]; exact touchL_ok h.ok i)
    rw [HT] at hres
    have HRES : Hid (RefIs B (w.setCell ⟨g, k * 3 + 2, none⟩ (.int .i64 0)) r (touchL L i) ∧ Below B w (w.setCell ⟨g, k * 3 + 2, none⟩ (.int .i64 0))) := hres
    subst ha
    have hf := hown.frozenAt (k * 3 + 2)
    have hd : decide ((k : Int) < 0) = false := by simp
    obtain ⟨y, hy⟩ : ∃ y, y = (L.getD k nz).a := ⟨_, rfl⟩
    rw [← hy] at k2
    clear hy hres HT e1 e2 hat hown hrow h
    go_enter Try.func27, Try.ntmps27
    go_wp2_with fail
    refine HF.out.mono ?_
    rintro e w1 ⟨rfl, rfl⟩
    go_wp2_with fail
    go_ret
    exact ⟨by rw [HE.out]; rfl, HRES.out.1, HRES.out.2⟩
end Go.Proofs.Ytfmgmelgfnppkaa
