/-
  The document's Give.
-/
import Derived.Test.YtpageadhmgoddaaR2
namespace Go.Proofs.Ytpageadhmgoddaa
open Go.RowKit

set_option maxRecDepth 100000 in
set_option maxHeartbeats 8000000 in
theorem rgive (B N r : Nat) (S : Cs) (a : Option Addr) (cap : Nat) (L : List Int) (n : Int) (w : World) (h : RefIs B w r S) (hok : OkC N S) (hI : ∀ W, Below B w W → Ints W a L) (hl : L.length ≤ 1000000) :
    Calls Try.prog 16 #[.pointer (some ⟨r, 0, none⟩), .slice a L.length cap, .int .i64 n] w fun e w' => e = .returned (.int .i64 (giveE S L n)) ∧ RefIs B w' r (giveC S L n) ∧ Below B w w' ∧ Ty qt w w' := by
  obtain ⟨g1, c1, g2, c2, g3, c3, g4, c4, hA⟩ := h
  have hB : B ≤ w.heap.size := Nat.le_trans hA.lo (Nat.le_of_lt hA.row.lt)
  have HI : Hid (∀ W, Below B w W → Ints W a L) := hI
  have HR : Hid (Calls Try.prog 29 #[.slice a L.length cap, .int .i64 n] w fun e w' => e = .returned (.bool (okC L n)) ∧ Below w.heap.size w w') := rchain a cap L n w (hI w (Below.refl _ _)) hl
  have H0 : Hid (OkC N S) := hok
  clear hI hok
  go_enter Try.func16, Try.ntmps16
  go_wp2_with fail
  refine HR.out.mono ?_
  rintro e w1 ⟨rfl, hb1⟩
  have hA1 := hA.below hb1
  have HB1 : Hid (Below B w w1) := hb1.mono hB
  have HT1 : Hid (Ty qt w w1) := Ty.ofBelow hb1
  clear hA hb1 HR
  cases hk : okC L n with
  | false =>
    obtain ⟨e1, e2⟩ := give_bad (S := S) hk
    have HE : Hid (giveC S L n = S ∧ giveE S L n = 1) := ⟨e1, e2⟩
    clear e1 e2 hk
    go_wp2_with fail
    go_ret
    obtain ⟨e1, e2⟩ := HE.out
    rw [e1, e2]
    exact ⟨rfl, ⟨g1, c1, g2, c2, g3, c3, g4, c4, hA1⟩, HB1.out, HT1.out⟩
  | true =>
    obtain ⟨hn, hg, hd⟩ := okC_parts hk
    have HK : Hid (okC L n = true) := hk
    have HG : Hid (∀ x ∈ L, 0 ≤ x ∧ x < 64) := hg
    have HD : Hid (L.Nodup) := hd
    clear hk hg hd
    go_wp2_with fail
    go_loopw [7] (fun s7 wr => ∃ i d : Nat, i ≤ L.length ∧ s7 = .int .i64 i ∧ (∀ j (hj : j < L.length), j < i → lack S n L[j] = false) ∧ wr = w1.drewN d) (fun s7 _ => L.length - (intOf s7).toNat)
    case atStart => exact ⟨0, 0, by omega, rfl, fun j hj hj0 => by omega, rfl⟩
    case round =>
      obtain ⟨i, d, hi, rfl, ho, rfl⟩ := hrel
      have HO : Hid (∀ j (hj : j < L.length), j < i → lack S n L[j] = false) := ho
      clear ho
      by_cases hlt : i < L.length
      · have hil : decide ((i : Int) < (L.length : Int)) = true := by simp; omega
        obtain ⟨b, off, rfl, hc⟩ := (HI.out w1 HB1.out) i hlt
        have hg := HG.out L[i] (List.getElem_mem hlt)
        obtain ⟨z, hz⟩ : ∃ z, z = L[i] := ⟨_, rfl⟩
        rw [← hz] at hc hg
        obtain ⟨k, rfl⟩ := Int.eq_ofNat_of_zero_le hg.1
        have hk : k < 64 := by omega
        have HZ : Hid ((k : Int) = L[i]) := hz
        have z64 : decide ((k : Int) < 64) = true := by simp; omega
        obtain ⟨p1, p2, p3, p4⟩ := hA1.ptrs
        have k1 := hA1.r1.at hk
        have HOV : Hid (lack S n k = decide (S.u k < n)) := rfl
        obtain ⟨u, hu⟩ : ∃ x, x = S.u k := ⟨_, rfl⟩
        rw [← hu] at k1 HOV
        clear hz hu hg
        by_cases h1 : u < n
        · have z1 : decide (u < n) = true := by simp; omega
          rw [z1] at HOV
          have hfind : L.find? (lack S n) = some L[i] := find_at hlt (by rw [← HZ.out, HOV.out]) HO.out
          obtain ⟨e1, e2⟩ := give_fail HK.out hfind
          have HE : Hid (giveC S L n = S ∧ giveE S L n = 2) := ⟨e1, e2⟩
          have HA1 : Hid (RefAt B w1 r g1 c1 g2 c2 g3 c3 g4 c4 S) := hA1
          clear hfind e1 e2 hA1
          go_wp2_with fail
          go_quiet (fail)
          go_wp2_with fail
          go_ret
          obtain ⟨e1, e2⟩ := HE.out
          rw [e1, e2]
          exact ⟨rfl, ⟨g1, c1, g2, c2, g3, c3, g4, c4, (HA1.out.drewN d).drewN nq⟩, below_drawn (below_drawn HB1.out d) nq, (HT1.out.drewN d).drewN nq⟩
        · have z1 : decide (u < n) = false := by simp; omega
          rw [z1] at HOV
          go_wp2_with fail
          go_quiet (fail)
          go_wp2_with fail
          refine ⟨⟨i + 1, d + nq, by omega, by go_num, fun j hj hji => ?_, by simp⟩, by simp [intOf]; omega⟩
          by_cases e : j = i
          · subst e; rw [← HZ.out, HOV.out]
          · exact HO.out j hj (by omega)
      · obtain rfl : i = L.length := by omega
        have hil : decide ((L.length : Int) < (L.length : Int)) = false := by simp
        have hno := find_end fun j hj => HO.out j hj hj
        obtain ⟨e1, e2⟩ := give_ok HK.out hno
        have HE : Hid (giveC S L n = shrC S L n ∧ giveE S L n = 0) := ⟨e1, e2⟩
        have HF : Hid (∀ x ∈ L, n ≤ S.u x) := fun x hx => by
          have := find_none hno x hx
          simp only [lack, decide_eq_false_iff_not] at this
          omega
        have HM0 : Hid (RefAt B (w1.drewN d) r g1 c1 g2 c2 g3 c3 g4 c4 (shrC S (L.take 0) n) ∧ Below B w (w1.drewN d) ∧ Ty qt w (w1.drewN d)) := by
          rw [List.take_zero, shr_nil]
          exact ⟨hA1.drewN d, below_drawn HB1.out d, HT1.out.drewN d⟩
        clear e1 e2 hA1 hno
        go_wp2_with fail
        go_loopw [8] (fun s8 wr => ∃ i : Nat, i ≤ L.length ∧ s8 = .int .i64 i ∧ RefAt B wr r g1 c1 g2 c2 g3 c3 g4 c4 (shrC S (L.take i) n) ∧ Below B w wr ∧ Ty qt w wr) (fun s8 _ => L.length - (intOf s8).toNat)
        case atStart => exact ⟨0, by omega, rfl, HM0.out⟩
        case round =>
          obtain ⟨i, hi, rfl, hA, hb, ht⟩ := hrel
          clear HM0
          by_cases hlt : i < L.length
          · have hil : decide ((i : Int) < (L.length : Int)) = true := by simp; omega
            obtain ⟨b, off, rfl, hc⟩ := (HI.out wr hb) i hlt
            have hg := HG.out L[i] (List.getElem_mem hlt)
            have hfr := HF.out L[i] (List.getElem_mem hlt)
            obtain ⟨t1, t2⟩ := shr_take (S := S) (n := n) HD.out hlt
            obtain ⟨z, hz⟩ : ∃ z, z = L[i] := ⟨_, rfl⟩
            rw [← hz] at hc hg t1 t2 hfr
            obtain ⟨k, rfl⟩ := Int.eq_ofNat_of_zero_le hg.1
            have hk : k < 64 := by omega
            have z64 : decide ((k : Int) < 64) = true := by simp; omega
            obtain ⟨p1, p2, p3, p4⟩ := hA.ptrs
            have k1 := hA.r1.at hk
            have f1 := hA.r1.frozen k
            have hub := H0.out.u k
            have hA5 := hA.setU k (S.u k - n) hk
            have hb5 := hb.setCell (p := ⟨g1, k, none⟩) hA.r1.lo.1 (.int .i64 (S.u k - n))
            have ht5 : Ty qt w (wr.setCell ⟨g1, k, none⟩ (.int .i64 (S.u k - n))) := ht.trans (Ty.set3 hA.r1 k _ hk)
            rw [t2] at k1
            have HM5 : Hid (RefAt B ((wr.setCell ⟨g1, k, none⟩ (.int .i64 (S.u k - n))).drewN 1) r g1 c1 g2 c2 g3 c3 g4 c4 (shrC S (L.take (i + 1)) n) ∧ Below B w ((wr.setCell ⟨g1, k, none⟩ (.int .i64 (S.u k - n))).drewN 1) ∧ Ty qt w ((wr.setCell ⟨g1, k, none⟩ (.int .i64 (S.u k - n))).drewN 1)) := by
              rw [t1]
              exact ⟨hA5.drewN 1, below_drawn hb5 1, ht5.drewN 1⟩
            obtain ⟨u, hu⟩ : ∃ x, x = S.u k := ⟨_, rfl⟩
            rw [← hu] at k1 hub HM5 hfr
            have ew : IntKind.i64.wrap (u - n) = u - n := by rw [IntKind.wrap_i64]; omega
            clear hz hu hg t1 t2 hA5 hb5 ht5 hA hb ht HF HG HD HI HO
            go_wp2_with fail
            go_region
            go_wp2_with fail
            exact ⟨⟨i + 1, by omega, by go_num, HM5.out⟩, by simp [intOf]; omega⟩
          · obtain rfl : i = L.length := by omega
            rw [List.take_of_length_le (Nat.le_refl _)] at hA
            have hil : decide ((L.length : Int) < (L.length : Int)) = false := by simp
            go_wp2_with fail
            go_ret
            obtain ⟨e1, e2⟩ := HE.out
            rw [e1, e2]
            exact ⟨rfl, ⟨g1, c1, g2, c2, g3, c3, g4, c4, hA⟩, hb, ht⟩
end Go.Proofs.Ytpageadhmgoddaa
