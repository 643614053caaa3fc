/-
  The document's Stat.
-/
import Derived.Test.YtbkeoaombhhdiaaDoorR3
import Derived.Test.YtbkeoaombhhdiaaDoorP9
namespace Go.Proofs.YtbkeoaombhhdiaaDoor
open Go.RowKit

theorem below_drawn {B : Nat} {w w' : World} (h : Below B w w') (n : Nat) : Below B w (w'.drewN n) := ⟨h.os, h.tape, h.output, h.size, h.block⟩
/-- No two of the first i are one. -/
def upX (L : List ByteArray) (i : Nat) : Prop := (tx (L.take i)).Nodup
theorem upX_succ {L : List ByteArray} {i : Nat} (hi : i < L.length) (h : upX L i) (hn : ∀ j (hj : j < L.length), j < i → L[j] ≠ L[i]) : upX L (i + 1) := by
  unfold upX at *
  rw [tx_snoc hi, List.nodup_append]
  refine ⟨h, by simp, fun a ha b hb e => ?_⟩
  rw [List.mem_singleton.1 hb] at e
  obtain ⟨x, hx, rfl⟩ := List.mem_map.1 ha
  obtain ⟨j, hj, rfl⟩ := List.getElem_of_mem hx
  rw [List.length_take] at hj
  rw [List.getElem_take] at e
  exact hn j (by omega) (by omega) (ba_ext e)
theorem may_two {L : List ByteArray} {i j : Nat} (hi : i < L.length) (hj : j < i) (e : L[j] = L[i]) : mayS (tx L) = false := by
  have hn : decide ((tx L).Nodup) = false := by
    rw [decide_eq_false_iff_not]
    intro hnd
    have hlt : i < (tx L).length := by rw [tx_length]; exact hi
    have := List.pairwise_iff_getElem.1 hnd j i (by omega) hlt hj
    apply this
    simp [tx, e]
  unfold mayS
  rw [hn]
  simp
theorem may_all {L : List ByteArray} (hl : L.length ≤ 100) (h1 : upN L L.length = true) (h2 : upX L L.length) : mayS (tx L) = true := by
  unfold upN at h1
  unfold upX at h2
  rw [List.take_length] at h1 h2
  unfold mayS
  rw [h1, tx_length]
  have e1 : decide (L.length ≤ 100) = true := by simpa using hl
  have e2 : decide ((tx L).Nodup) = true := by simpa using h2
  rw [e1, e2]
  rfl
theorem upS_len' {L : List ByteArray} {V : List Int} {k : Nat} (h : upN L k = true) (hv : I64s V) (hk : k ≤ 100) : (upS L V k).length ≤ 6200 := by
  have := stat_len (tx (L.take k)) (V.take k) h (fun x hx => hv x (List.mem_of_mem_take hx))
  rw [tx_length, List.length_take] at this
  unfold upS
  omega
theorem stat_step (t s : ByteArray) (v : Int) (T : Bs) (h : t.data.toList = T) : (t ++ s ++ (⟨#[32]⟩ : ByteArray) ++ str (dgI v) ++ (⟨#[10]⟩ : ByteArray)).data.toList = T ++ line s.data.toList v := by
  rw [dat_append, dat_append, dat_append, dat_append, h]
  simp [line]
theorem bs_same {a b : ByteArray} : (a.toList == b.toList) = decide (a = b) := by
  rw [ByteArray.toList_eq, ByteArray.toList_eq, Bool.eq_iff_iff, beq_iff_eq, decide_eq_true_eq]
  constructor
  · exact ba_ext
  · intro h; rw [h]
set_option maxRecDepth 100000 in
set_option maxHeartbeats 4000000 in
theorem rstat (a b : Option Addr) (cap cap2 : Nat) (L : List ByteArray) (V : List Int) (w : World) (hL : Strs w a L) (hS : Short L) (hV : Ints w b V) (h64 : I64s V) (hs1 : L.length ≤ 9223372036854775807) :
    Calls Tryd.prog 16 #[.slice a L.length cap, .slice b V.length cap2] w fun e w' => e = stE (tx L) V ∧ Below w.heap.size w w' := by
  have HL : Hid (Strs w a L) := hL
  have HS : Hid (Short L) := hS
  have HV : Hid (Ints w b V) := hV
  have H6 : Hid (I64s V) := h64
  by_cases h1 : L.length = V.length
  case neg =>
    have HE : Hid (stE (tx L) V = .returned (.tuple #[.string ⟨#[]⟩, .int .i64 1])) := stE_no (by
      rw [stOk_may, tx_length]
      have : decide (L.length = V.length) = false := by simpa using h1
      rw [this]; rfl)
    have h1' : ((L.length : Int) != (V.length : Int)) = true := by simp; omega
    clear h1 hL hS hV h64
    go_enter Tryd.func16, Tryd.ntmps16
    go_wp2_with fail
    go_ret2
    exact ⟨HE.out.symm, Below.refl _ _⟩
  have h1' : ((L.length : Int) != (V.length : Int)) = false := by simp; omega
  have HNO : Hid (mayS (tx L) = false → stE (tx L) V = .returned (.tuple #[.string ⟨#[]⟩, .int .i64 1])) := fun h => stE_no (by rw [stOk_may, h]; simp)
  have HYES : Hid (mayS (tx L) = true → stE (tx L) V = .returned (.tuple #[.string (str (upS L V L.length)), .int .i64 0])) := fun h => by
    rw [upS_end h1]
    refine stE_yes ?_
    rw [stOk_may, h, tx_length]
    simpa using h1
  by_cases h100 : 100 < L.length
  · have HE : Hid (stE (tx L) V = .returned (.tuple #[.string ⟨#[]⟩, .int .i64 1])) := HNO.out (may_long h100)
    have h100' : (100 : Int) < L.length := by omega
    clear h1 hL hS hV h64
    go_enter Tryd.func16, Tryd.ntmps16
    go_wp2_with fail
    go_ret2
    exact ⟨HE.out.symm, Below.refl _ _⟩
  have H1 : Hid (L.length = V.length) := h1
  have hl100 : L.length ≤ 100 := by omega
  clear h1 hL hS hV h64 hs1
  go_enter Tryd.func16, Tryd.ntmps16
  go_wp2_with fail
  go_loopw [6, 7] (fun s6 s7 wr => ∃ (i : Nat) (t : ByteArray), i ≤ L.length ∧ s7 = .int .i64 i ∧ s6 = .string t ∧ Hid (t.data.toList = upS L V i) ∧ Hid (upN L i = true) ∧ Hid (upX L i) ∧ Below w.heap.size w wr) (fun _ s7 _ => L.length - (intOf s7).toNat)
  case atStart => exact ⟨0, ⟨#[]⟩, Nat.zero_le _, rfl, rfl, rfl, rfl, List.nodup_nil, Below.refl _ _⟩
  case round =>
    obtain ⟨i, t, hi, rfl, rfl, HTt, HU, HX, hbw⟩ := hrel
    by_cases hlt : i < L.length
    · obtain ⟨c1, o1, rfl, hc⟩ := HL.out i hlt
      have hlt2 : i < V.length := by have := H1.out; omega
      obtain ⟨c2, o2, rfl, hd⟩ := HV.out i hlt2
      obtain ⟨z, hz⟩ : ∃ z, L[i] = z := ⟨_, rfl⟩
      obtain ⟨v, hv⟩ : ∃ v, V[i] = v := ⟨_, rfl⟩
      rw [hz] at hc
      rw [hv] at hd
      have hcx : wr.cell? ⟨c1, o1 + i, none⟩ = some (.string z) := cell_later hbw hc
      have hdx : wr.cell? ⟨c2, o2 + i, none⟩ = some (.int .i64 v) := cell_later hbw hd
      have HZ : Hid (L[i] = z) := hz
      have Hv : Hid (i64 v) := by rw [← hv]; exact H6.out _ (List.getElem_mem hlt2)
      have Hz : Hid (z.size ≤ maxLen) := by rw [← hz]; exact HS.out _ (List.getElem_mem hlt)
      have HVv : Hid (V[i] = v) := hv
      clear hz hv hc hd
      cases hw : isW z.data.toList with
      | false =>
        have HE : Hid (stE (tx L) V = .returned (.tuple #[.string ⟨#[]⟩, .int .i64 1])) := HNO.out (may_other hlt (by rw [HZ.out]; exact hw))
        go_wp2_with (go_at_call 22; refine (rword _ _ Hz.out).mono ?_; rintro e w1 ⟨rfl, rfl⟩; rw [hw])
        go_ret2
        exact ⟨HE.out.symm, hbw⟩
      | true =>
        have HW : Hid (isW z.data.toList = true) := hw
        go_wp2_with (go_at_call 22; refine (rword _ _ Hz.out).mono ?_; rintro e w1 ⟨rfl, hw1⟩; rw [hw1, hw]; clear hw1 w1)
        clear hw
        go_loopw [8] (fun s8 wq => ∃ k d : Nat, k ≤ i ∧ s8 = .int .i64 k ∧ Hid (∀ j (hj : j < L.length), j < k → L[j] ≠ L[i]) ∧ wq = wr.drewN d) (fun s8 _ => i - (intOf s8).toNat)
        case atStart => exact ⟨0, 0, by omega, rfl, fun j hj hj0 => by omega, rfl⟩
        case round =>
          obtain ⟨k, d, hk, rfl, HN, rfl⟩ := hrel
          by_cases hki : k < i
          · have hkL : k < L.length := by omega
            obtain ⟨c', o', e', hc'⟩ := HL.out k hkL
            have e2 := Option.some.inj e'
            injection e2 with e3 e4
            subst e3
            subst e4
            obtain ⟨y, hy⟩ : ∃ z, L[k] = z := ⟨_, rfl⟩
            rw [hy] at hc'
            have hcy : wr.cell? ⟨c1, o1 + k, none⟩ = some (.string y) := cell_later hbw hc'
            by_cases he : y = z
            · have zz : (y.toList == z.toList) = true := by rw [bs_same]; simpa using he
              have HE : Hid (stE (tx L) V = .returned (.tuple #[.string ⟨#[]⟩, .int .i64 1])) := HNO.out (may_two hlt hki (by rw [hy, he, HZ.out]))
              clear hy he e' hc'
              go_wp2_with fail
              go_quiet (fail)
              go_wp2_with fail
              go_ret2
              exact ⟨HE.out.symm, below_drawn (below_drawn hbw _) _⟩
            · have zz : (y.toList == z.toList) = false := by rw [bs_same]; simpa using he
              have HN2 : Hid (∀ j (hj : j < L.length), j < k + 1 → L[j] ≠ L[i]) := by
                intro j hj hjk
                by_cases e : j = k
                · subst e
                  rw [hy, HZ.out]
                  exact he
                · exact HN.out j hj (by omega)
              clear hy he e' hc'
              go_wp2_with fail
              go_quiet (fail)
              go_wp2_with fail
              exact ⟨⟨k + 1, d + nq, by omega, by go_num, HN2, rfl⟩, by simp [intOf]; omega⟩
          · obtain rfl : k = i := by omega
            have hcx9 : (wr.drewN d).cell? ⟨c1, o1 + k, none⟩ = some (.string z) := hcx
            have hdx9 : (wr.drewN d).cell? ⟨c2, o2 + k, none⟩ = some (.int .i64 v) := hdx
            have hbw9 : Below w.heap.size w (wr.drewN d) := below_drawn hbw d
            obtain ⟨w9, hw9⟩ : ∃ w9, wr.drewN d = w9 := ⟨_, rfl⟩
            rw [hw9] at hcx9 hdx9 hbw9 ⊢
            clear hw9 hcx hdx hbw
            have HN1 : Hid (upN L (k + 1) = true) := upN_succ hlt HU.out (by rw [HZ.out]; exact HW.out)
            have HX1 : Hid (upX L (k + 1)) := upX_succ hlt HX.out HN.out
            have HT1 : Hid ((t ++ z ++ (⟨#[32]⟩ : ByteArray) ++ str (dgI v) ++ (⟨#[10]⟩ : ByteArray)).data.toList = upS L V (k + 1)) := by
              show _ = _
              rw [upS_succ hlt hlt2, HZ.out, HVv.out]
              exact stat_step t z v _ HTt.out
            have htz : t.size ≤ 6200 := by
              have := upS_len' HU.out H6.out (k := k) (by omega)
              rw [← HTt.out] at this
              simpa using this
            have hzz : z.size ≤ 40 := isW_len HW.out
            have hvz : (dgI v).length ≤ 20 := dgI_len Hv.out
            have HO : Hid (∀ w, Calls Tryd.prog 28 #[.int .i64 v] w fun e w' => e = .returned (.string (str (dgI v))) ∧ Below w.heap.size w w') := fun w => rdigits v Hv.out w
            have l1 := Up.cell hcx9
            have l2 := Up.cell hdx9
            have hne := Up.any w9
            clear HTt HU HX HN HZ HVv HW Hz
            go_wp2_with fail
            refine wp_region_up (by kernel_rfl) (by kernel_rfl) ?_
            repeat (go_big_quiet_step ((go_at_call 28; refine Up.call (HO.out _))))
            refine wpQuiet_nil ?_
            intro w17 hw'
            obtain ⟨⟨_, hb7⟩, rfl⟩ := hw'
            clear l1 l2 hcx9 hdx9 hne HO
            go_wp2_with fail
            exact ⟨⟨k + 1, _, by omega, by go_num, rfl, HT1, HN1, HX1, hbw9.trans (hb7.mono hbw9.size)⟩, by simp [intOf]; omega⟩
    · obtain rfl : i = L.length := by omega
      have HE := HYES.out (may_all hl100 HU.out HX.out)
      have HE2 : Hid (stE (tx L) V = .returned (.tuple #[.string t, .int .i64 0])) := by
        show _ = _
        rw [HE, ← HTt.out]
      clear HE
      go_wp2_with fail
      go_ret2
      exact ⟨HE2.out.symm, hbw⟩
end Go.Proofs.YtbkeoaombhhdiaaDoor
