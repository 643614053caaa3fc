/-
  The contracts of SetLimit, grow, right (a chain looked through by a closure), IndexFunc, ContainsFunc.
-/
import Derived.Test.YtpageadhmgoddaaP1
namespace Go.Proofs.Ytpageadhmgoddaa
open Go.RowKit

/-- The types of the program's counter. -/
def pt (t : TypeId) : Bool := t == 49
theorem HA : Hid (∀ (x : Int) (w : World), Calls Try.prog 33 #[.int .i64 x] w fun e w' => e = .returned (.bool (isA x)) ∧ w' = w) := pamt

theorem set_yes {S : Cs} {g n : Int} (h1 : isG g = true) (h2 : isA n = true) : setC S g n = ⟨S.u, upd S.l g n, S.f, S.p⟩ ∧ setE g n = 0 := by simp [setC, setE, h1, h2]
theorem set_no {S : Cs} {g n : Int} (h : isG g = false ∨ isA n = false) : setC S g n = S ∧ setE g n = 1 := by
  rcases h with h | h <;> simp [setC, setE, h]

set_option maxHeartbeats 4000000 in
theorem pset (B N c : Nat) (S : Cs) (g n : Int) (w : World) (h : CtIs B N w c S) :
    Calls Try.prog 17 #[.pointer (some ⟨c, 0, none⟩), .int .i64 g, .int .i64 n] w fun e w' => e = .returned (.int .i64 (setE g n)) ∧ CtIs B N w' c (setC S g n) ∧ Below B w w' ∧ Ty pt w w' ∧ Apart c w w' := by
  have HGx := HG
  have HAx := HA
  have HO : Hid (OkC N (setC S g n)) := ok_set h.ok
  cases hg : isG g with
  | false =>
    obtain ⟨e1, e2⟩ := set_no (S := S) (n := n) (Or.inl hg)
    rw [e1, e2]
    clear e1 e2
    go_enter Try.func17, Try.ntmps17
    go_wp2_with fail
    refine (HGx.out _ _).mono ?_
    rintro e w1 ⟨rfl, rfl⟩
    rw [hg]
    go_wp2_with fail
    go_ret
    exact ⟨rfl, h, Below.refl _ _, Ty.refl _ _, Apart.refl _ _⟩
  | true =>
    cases hn : isA n with
    | false =>
      obtain ⟨e1, e2⟩ := set_no (S := S) (g := g) (Or.inr hn)
      rw [e1, e2]
      clear e1 e2
      go_enter Try.func17, Try.ntmps17
      go_wp2_with fail
      refine (HGx.out _ _).mono ?_
      rintro e w1 ⟨rfl, rfl⟩
      rw [hg]
      go_wp2_with fail
      refine (HAx.out _ _).mono ?_
      rintro e w1 ⟨rfl, rfl⟩
      rw [hn]
      go_wp2_with fail
      go_ret
      exact ⟨rfl, h, Below.refl _ _, Ty.refl _ _, Apart.refl _ _⟩
    | true =>
      obtain ⟨e1, e2⟩ := set_yes (S := S) hg hn
      rw [e1] at HO
      rw [e1, e2]
      obtain ⟨k, rfl⟩ := Int.eq_ofNat_of_zero_le (isG_iff.1 hg).1
      have hk : k < 64 := by have := (isG_iff.1 hg).2; omega
      have hrow := h.row
      have hN := h.row.set (k * 4 + 1) (.int .i64 n)
      rw [cc_l _ _ _ hk] at hN
      have HN : Hid (RowAt (w.setCell ⟨c, k * 4 + 1, none⟩ (.int .i64 n)) c 49 (cc ⟨S.u, upd S.l k n, S.f, S.p⟩)) := hN
      have c1 := (h.at hk).2.1
      have f1 := h.row.frozen (k * 4 + 1)
      have HT : Hid (Ty pt w (w.setCell ⟨c, k * 4 + 1, none⟩ (.int .i64 n))) := ty_set h.row rfl _
      have HL : Hid (B ≤ c) := h.lo
      clear e1 e2 hN h hrow
      go_enter Try.func17, Try.ntmps17
      go_wp2_with fail
      refine (HGx.out _ _).mono ?_
      rintro e w1 ⟨rfl, rfl⟩
      rw [hg]
      go_wp2_with fail
      refine (HAx.out _ _).mono ?_
      rintro e w1 ⟨rfl, rfl⟩
      rw [hn]
      go_wp2_with fail
      go_ret
      exact ⟨rfl, ⟨HN.out, HL.out, HO.out⟩, (Below.refl _ _).setCell (p := ⟨c, k * 4 + 1, none⟩) HL.out _, HT.out, Apart.ofBut (But.setCell _ _ _ _)⟩

/-- A slice of ints as a list. -/
def iv (p : Int) : Value := .int .i64 p
def Ints (w : World) (a : Option Addr) (l : List Int) : Prop := ∀ i (h : i < l.length), ∃ b off, a = some ⟨b, off, none⟩ ∧ w.cell? ⟨b, off + i, none⟩ = some (.int .i64 l[i])
theorem Ints.later {w w' : World} {a : Option Addr} {l : List Int} (h : Ints w a l) (hb : Below w.heap.size w w') : Ints w' a l := fun i hi => by
  obtain ⟨b, off, h1, h2⟩ := h i hi
  exact ⟨b, off, h1, cell_later hb h2⟩
theorem ints_own {w : World} {B : Nat} {v : Value} {l : List Int} (h : w.ownsRow B 3 1 v l.length (l.map iv)) : ∃ a cap, v = .slice a l.length cap ∧ Ints w a l := by
  obtain ⟨a, cap, rfl, h2⟩ := own_form h
  refine ⟨a, cap, rfl, fun i hi => ?_⟩
  obtain ⟨g, rfl, h3⟩ := h2 (by omega)
  refine ⟨g, 0, rfl, ?_⟩
  rw [Nat.zero_add, h3 i (by omega)]
  simp [iv, hi]

set_option maxRecDepth 100000 in
set_option maxHeartbeats 4000000 in
/-- slices.IndexFunc with whatever closure: p tells what it answers at each place, J what holds ahead of it, K where it said yes. -/
theorem pindex (F : Nat) (cs : Array Value) (hF : F = 26 ∧ (∃ x y, cs = #[x, y]) ∨ F = 31 ∧ (∃ x y, cs = #[x, y]) ∨ F = 34 ∧ (∃ x, cs = #[x])) (a : Option Addr) (cap : Nat) (L : List Int) (w : World)
    (p : Nat → Bool) (J : Nat → World → Prop) (K : World → Prop) (h0 : J 0 w) (hI : ∀ i W, J i W → Ints W a L)
    (hf : ∀ (i : Nat) (hi : i < L.length) W, J i W → Calls Try.prog F (#[.int .i64 L[i]] ++ cs) W fun e w' => e = .returned (.bool (p i)) ∧ (p i = true → K w') ∧ (p i = false → J (i + 1) w')) (hl : L.length ≤ 1000000) :
    Calls Try.prog 25 #[.slice a L.length cap, .func (.func F) #[] cs] w fun e w' => (∃ i, i < L.length ∧ p i = true ∧ (∀ j, j < i → p j = false) ∧ e = .returned (.int .i64 i) ∧ K w') ∨ ((∀ j, j < L.length → p j = false) ∧ e = .returned (.int .i64 (-1)) ∧ J L.length w') := by
  have HI : Hid (∀ i W, J i W → Ints W a L) := hI
  have HF : Hid (∀ (i : Nat) (hi : i < L.length) W, J i W → Calls Try.prog F (#[.int .i64 L[i]] ++ cs) W fun e w' => e = .returned (.bool (p i)) ∧ (p i = true → K w') ∧ (p i = false → J (i + 1) w')) := hf
  have H0 : Hid (J 0 w) := h0
  clear hf hI h0
  rcases hF with ⟨rfl, x, y, rfl⟩ | ⟨rfl, x, y, rfl⟩ | ⟨rfl, x, rfl⟩
  all_goals
    go_enter Try.func25, Try.ntmps25
    go_wp2_with fail
    go_loopw [8] (fun s8 wr => ∃ i : Nat, i ≤ L.length ∧ s8 = .int .i64 i ∧ (∀ j, j < i → p j = false) ∧ J i wr) (fun s8 _ => L.length - (intOf s8).toNat)
    case atStart => exact ⟨0, by omega, rfl, fun j hj => by omega, H0.out⟩
    case round =>
      obtain ⟨i, hi, rfl, hp, hJ⟩ := hrel
      have HP : Hid (∀ j, j < i → p j = false) := hp
      clear hp H0
      by_cases hlt : i < L.length
      · have hd : decide ((i : Int) < (L.length : Int)) = true := by simp; omega
        obtain ⟨b, off, rfl, hc⟩ := HI.out i wr hJ i hlt
        have hF2 := HF.out i hlt wr hJ
        have HJ : Hid (J i wr) := hJ
        obtain ⟨q, hq⟩ : ∃ q, q = L[i] := ⟨_, rfl⟩
        rw [← hq] at hc hF2
        simp only [List.append_toArray, List.cons_append, List.nil_append] at hF2
        have HF2 : Hid (Calls Try.prog _ _ wr fun e w' => e = .returned (.bool (p i)) ∧ (p i = true → K w') ∧ (p i = false → J (i + 1) w')) := hF2
        clear hF2 HF HI hJ hq
        go_wp2_with fail
        refine HF2.out.mono ?_
        rintro e w2 ⟨rfl, hK, hJ2⟩
        cases hpi : p i with
        | true =>
          have HK : Hid (K w2) := hK hpi
          clear hK hJ2 HF2 HJ hc
          go_wp2_with fail
          go_ret
          exact Or.inl ⟨i, hlt, hpi, HP.out, rfl, HK.out⟩
        | false =>
          have HK : Hid (J (i + 1) w2) := hJ2 hpi
          clear hK hJ2 HF2 HJ hc
          go_wp2_with fail
          refine ⟨⟨i + 1, by omega, by go_num, fun j hj => ?_, HK.out⟩, by simp [intOf]; omega⟩
          by_cases e : j = i
          · subst e; exact hpi
          · exact HP.out j (by omega)
      · obtain rfl : i = L.length := by omega
        have hd : decide ((L.length : Int) < (L.length : Int)) = false := by simp
        have HJ : Hid (J L.length wr) := hJ
        clear hJ HF HI
        go_wp2_with fail
        go_ret
        exact Or.inr ⟨HP.out, rfl, HJ.out⟩
end Go.Proofs.Ytpageadhmgoddaa
