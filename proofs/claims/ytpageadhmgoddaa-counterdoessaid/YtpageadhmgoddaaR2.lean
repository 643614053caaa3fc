/-
  The document's chain: are all groups, each once, and is the amount one?
-/
import Derived.Test.YtpageadhmgoddaaR1
namespace Go.Proofs.Ytpageadhmgoddaa
open Go.RowKit

theorem bad_nG {L : List Int} {i : Nat} (hi : i < L.length) (h : isG L[i] = false) : bad L i = true := by
  have e : L.getD i 0 = L[i] := by simp [hi]
  simp only [bad, e, h, Bool.not_false, Bool.true_or]
theorem bad_two {L : List Int} {i k : Nat} (hi : i < L.length) (hk : k < L.length) (hki : k < i) (h : L[k] = L[i]) : bad L i = true := by
  have e : L.getD i 0 = L[i] := by simp [hi]
  have hm : L[i] ∈ L.take i := mem_take.2 ⟨k, hk, hki, h⟩
  simp only [bad, e, hm, decide_true, Bool.or_true]
theorem bad_not {L : List Int} {i : Nat} (hi : i < L.length) (h : isG L[i] = true) (hn : ∀ k (hk : k < L.length), k < i → L[k] ≠ L[i]) : bad L i = false := by
  have e : L.getD i 0 = L[i] := by simp [hi]
  have hm : L[i] ∉ L.take i := fun hm => by
    obtain ⟨j, hj, hji, e2⟩ := mem_take.1 hm
    exact hn j hj hji e2
  simp only [bad, e, h, hm, decide_false, Bool.not_true, Bool.or_false]

set_option maxRecDepth 100000 in
set_option maxHeartbeats 4000000 in
theorem rchain (a : Option Addr) (cap : Nat) (L : List Int) (n : Int) (w : World) (h : Ints w a L) (hl : L.length ≤ 1000000) :
    Calls Try.prog 29 #[.slice a L.length cap, .int .i64 n] w fun e w' => e = .returned (.bool (okC L n)) ∧ Below w.heap.size w w' := by
  have HGx := HR
  have HI : Hid (Ints w a L) := h
  clear h
  go_enter Try.func29, Try.ntmps29
  go_wp2_with fail
  go_loopw [5] (fun s5 wr => ∃ i d : Nat, i ≤ L.length ∧ s5 = .int .i64 i ∧ (∀ j, j < i → bad L j = false) ∧ wr = w.drewN d) (fun s5 _ => L.length - (intOf s5).toNat)
  case atStart => exact ⟨0, 0, by omega, rfl, fun j hj => by omega, rfl⟩
  case round =>
    obtain ⟨i, d, hi, rfl, hb, rfl⟩ := hrel
    have HB : Hid (∀ j, j < i → bad L j = false) := hb
    clear hb
    by_cases hlt : i < L.length
    · have hil : decide ((i : Int) < (L.length : Int)) = true := by simp; omega
      obtain ⟨b, off, rfl, hc⟩ := HI.out i hlt
      obtain ⟨z, hz⟩ : ∃ z, z = L[i] := ⟨_, rfl⟩
      rw [← hz] at hc
      cases hg : isG z with
      | false =>
        have HQ : Hid (okC L n = false) := by
          show _ = _
          have := okL_bad hlt (bad_nG hlt (by rw [← hz]; exact hg))
          simp [okC, this]
        clear hz
        go_wp2_with fail
        refine (HGx.out _ _).mono ?_
        rintro e w1 ⟨rfl, rfl⟩
        rw [hg]
        go_wp2_with fail
        go_ret
        exact ⟨by rw [HQ.out]; rfl, below_drawn (Below.refl _ _) _⟩
      | true =>
        have HZ : Hid (z = L[i]) := hz
        have HZG : Hid (isG L[i] = true) := by show _ = _; rw [← hz]; exact hg
        clear hz
        go_wp2_with fail
        refine (HGx.out _ _).mono ?_
        rintro e w1 ⟨rfl, rfl⟩
        rw [hg]
        clear hg
        go_wp2_with fail
        go_loopw [6] (fun s6 wq => ∃ k d : Nat, k ≤ i ∧ s6 = .int .i64 k ∧ (∀ j (hj : j < L.length), j < k → L[j] ≠ L[i]) ∧ wq = w.drewN d) (fun s6 _ => i - (intOf s6).toNat)
        case atStart => exact ⟨0, d, by omega, rfl, fun j hj hj0 => by omega, rfl⟩
        case round =>
          obtain ⟨k, d2, hk, rfl, hn, rfl⟩ := hrel
          have HN : Hid (∀ j (hj : j < L.length), j < k → L[j] ≠ L[i]) := hn
          clear hn
          by_cases hki : k < i
          · have hkd : decide ((k : Int) < (i : Int)) = true := by simp; omega
            have hkl : decide ((k : Int) < (L.length : Int)) = true := by simp; omega
            have hkL : k < L.length := by omega
            obtain ⟨b', off', e', hc'⟩ := HI.out k hkL
            have e2 := Option.some.inj e'
            injection e2 with e3 e4
            subst e3
            subst e4
            obtain ⟨y, hy⟩ : ∃ z, z = L[k] := ⟨_, rfl⟩
            rw [← hy] at hc'
            by_cases he : y = z
            · have zz : (y == z) = true := by simpa using he
              have HQ : Hid (okC L n = false) := by
                show _ = _
                have := okL_bad hlt (bad_two hlt hkL hki (by rw [← hy, he, HZ.out]))
                simp [okC, this]
              clear hy he e'
              go_wp2_with fail
              go_quiet (fail)
              go_wp2_with fail
              go_ret
              exact ⟨by rw [HQ.out]; rfl, below_drawn (below_drawn (Below.refl _ _) _) _⟩
            · have zz : (y == z) = false := by simpa using he
              have HN2 : Hid (∀ j (hj : j < L.length), j < k + 1 → L[j] ≠ L[i]) := by
                intro j hj hjk
                by_cases e : j = k
                · subst e
                  rw [← hy, ← HZ.out]
                  exact he
                · exact HN.out j hj (by omega)
              clear hy he e'
              go_wp2_with fail
              go_quiet (fail)
              go_wp2_with fail
              exact ⟨⟨k + 1, d2 + nq, by omega, by go_num, HN2.out, by simp⟩, by simp [intOf]; omega⟩
          · obtain rfl : k = i := by omega
            have hkd : decide ((k : Int) < (k : Int)) = false := by simp
            go_wp2_with fail
            refine ⟨⟨k + 1, d2, by omega, by go_num, fun j hj => ?_, rfl⟩, by simp [intOf]; omega⟩
            by_cases e : j = k
            · subst e
              exact bad_not hlt HZG.out fun q hq hqk => HN.out q hq hqk
            · exact HB.out j (by omega)
    · obtain rfl : i = L.length := by omega
      have hil : decide ((L.length : Int) < (L.length : Int)) = false := by simp
      have hok := okL_good HB.out
      have HQ : Hid (okC L n = (decide (0 ≤ n) && decide (n ≤ 1099511627776))) := by
        show _ = _
        simp [okC, hok, isA]
      clear hok
      by_cases h0 : 0 ≤ n
      · have z0 : decide (0 ≤ n) = true := by simp; omega
        rw [z0] at HQ
        go_wp2_with fail
        go_ret
        exact ⟨by rw [HQ.out]; rfl, below_drawn (Below.refl _ _) _⟩
      · have z0 : decide (0 ≤ n) = false := by simp; omega
        rw [z0] at HQ
        go_wp2_with fail
        go_ret
        exact ⟨by rw [HQ.out]; rfl, below_drawn (Below.refl _ _) _⟩
end Go.Proofs.Ytpageadhmgoddaa
