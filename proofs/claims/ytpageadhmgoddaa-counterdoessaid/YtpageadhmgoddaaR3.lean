/-
  The document's Try and Give.
-/
import Derived.Test.YtpageadhmgoddaaR2
import Derived.Deep.RegionHeld3
namespace Go.Proofs.Ytpageadhmgoddaa
open Go.RowKit

set_option maxRecDepth 100000 in
set_option maxHeartbeats 8000000 in
theorem rtry (B N r : Nat) (S : Cs) (a : Option Addr) (cap : Nat) (L : List Int) (n : Int) (w : World) (h : RefIs B w r S) (hok : OkC N S) (hI : ∀ W, Below B w W → Ints W a L) (hl : L.length ≤ 1000000) (hN : N ≤ 1000000) :
    Calls Try.prog 14 #[.pointer (some ⟨r, 0, none⟩), .slice a L.length cap, .int .i64 n] w fun e w' => e = .returned (.tuple #[.int .i64 (tryN S L n), .int .i64 (tryE S L n)]) ∧ RefIs B w' r (tryC S L n) ∧ Below B w w' ∧ Ty qt w w' := by
  obtain ⟨g1, c1, g2, c2, g3, c3, g4, c4, hA⟩ := h
  have hB : B ≤ w.heap.size := Nat.le_trans hA.lo (Nat.le_of_lt hA.row.lt)
  have HI : Hid (∀ W, Below B w W → Ints W a L) := hI
  have HR : Hid (Calls Try.prog 29 #[.slice a L.length cap, .int .i64 n] w fun e w' => e = .returned (.bool (okC L n)) ∧ Below w.heap.size w w') := rchain a cap L n w (hI w (Below.refl _ _)) hl
  have H0 : Hid (OkC N S) := hok
  clear hI hok
  go_enter Try.func14, Try.ntmps14
  go_wp2_with fail
  refine HR.out.mono ?_
  rintro e w1 ⟨rfl, hb1⟩
  have hA1 := hA.below hb1
  have HB1 : Hid (Below B w w1) := hb1.mono hB
  have HT1 : Hid (Ty qt w w1) := Ty.ofBelow hb1
  clear hA hb1 HR
  cases hk : okC L n with
  | false =>
    obtain ⟨e1, e2, e3⟩ := try_bad (S := S) hk
    have HE : Hid (tryC S L n = S ∧ tryN S L n = -1 ∧ tryE S L n = 1) := ⟨e1, e2, e3⟩
    clear e1 e2 e3 hk
    go_wp2_with fail
    go_ret2
    obtain ⟨e1, e2, e3⟩ := HE.out
    rw [e1, e2, e3]
    exact ⟨rfl, ⟨g1, c1, g2, c2, g3, c3, g4, c4, hA1⟩, HB1.out, HT1.out⟩
  | true =>
    obtain ⟨hn, hg, hd⟩ := okC_parts hk
    have HK : Hid (okC L n = true) := hk
    have HG : Hid (∀ x ∈ L, 0 ≤ x ∧ x < 64) := hg
    have HD : Hid (L.Nodup) := hd
    clear hk hg hd
    go_wp2_with fail
    go_loopw [8] (fun s8 wr => ∃ i d : Nat, i ≤ L.length ∧ s8 = .int .i64 i ∧ (∀ j (hj : j < L.length), j < i → over S n L[j] = false) ∧ wr = w1.drewN d) (fun s8 _ => L.length - (intOf s8).toNat)
    case atStart => exact ⟨0, 0, by omega, rfl, fun j hj hj0 => by omega, rfl⟩
    case round =>
      obtain ⟨i, d, hi, rfl, ho, rfl⟩ := hrel
      have HO : Hid (∀ j (hj : j < L.length), j < i → over S n L[j] = false) := ho
      clear ho
      by_cases hlt : i < L.length
      · have hil : decide ((i : Int) < (L.length : Int)) = true := by simp; omega
        obtain ⟨b, off, rfl, hc⟩ := (HI.out w1 HB1.out) i hlt
        have hg := HG.out L[i] (List.getElem_mem hlt)
        obtain ⟨z, hz⟩ : ∃ z, z = L[i] := ⟨_, rfl⟩
        rw [← hz] at hc hg
        obtain ⟨k, rfl⟩ := Int.eq_ofNat_of_zero_le hg.1
        have hk : k < 64 := by omega
        have HZ : Hid ((k : Int) = L[i]) := hz
        have z64 : decide ((k : Int) < 64) = true := by simp; omega
        obtain ⟨p1, p2, p3, p4⟩ := hA1.ptrs
        have k1 := hA1.r1.at hk
        have k2 := hA1.r2.at hk
        have k3 := hA1.r3.at hk
        have f3 := hA1.r3.frozen k
        have hub := H0.out.u k
        have hfb := H0.out.f k
        have HOV : Hid (over S n k = (decide (0 < n) && decide (S.l k < S.u k + n))) := rfl
        have HNF : Hid (∀ m, RefAt B ((w1.drewN m).setCell ⟨g3, k, none⟩ (.int .i64 (S.f k + 1))) r g1 c1 g2 c2 g3 c3 g4 c4 (failC S k) ∧ Below B w ((w1.drewN m).setCell ⟨g3, k, none⟩ (.int .i64 (S.f k + 1))) ∧ Ty qt w ((w1.drewN m).setCell ⟨g3, k, none⟩ (.int .i64 (S.f k + 1)))) :=
          fun m => ⟨(hA1.drewN m).setF k (S.f k + 1) hk, (below_drawn HB1.out m).setCell (p := ⟨g3, k, none⟩) hA1.r3.lo.1 _, (HT1.out.drewN m).trans (Ty.set3 (hA1.r3.drewN m) k _ hk)⟩
        obtain ⟨u, hu⟩ : ∃ x, x = S.u k := ⟨_, rfl⟩
        obtain ⟨lm, hlm⟩ : ∃ x, x = S.l k := ⟨_, rfl⟩
        obtain ⟨f, hf⟩ : ∃ x, x = S.f k := ⟨_, rfl⟩
        rw [← hu] at k1 hub HOV
        rw [← hlm] at k2 HOV
        rw [← hf] at k3 hfb HNF
        have ew : IntKind.i64.wrap (u + n) = u + n := by rw [IntKind.wrap_i64]; omega
        have ef : IntKind.i64.wrap (f + 1) = f + 1 := by rw [IntKind.wrap_i64]; omega
        clear hz hu hlm hf hg
        by_cases h0 : 0 < n
        · have z0 : decide (0 < n) = true := by simp; omega
          rw [z0] at HOV
          by_cases h1 : lm < u + n
          · have z1 : decide (lm < u + n) = true := by simp; omega
            rw [z1] at HOV
            have hfind : L.find? (over S n) = some L[i] := find_at hlt (by rw [← HZ.out, HOV.out]; rfl) HO.out
            obtain ⟨e1, e2, e3⟩ := try_fail HK.out hfind
            rw [← HZ.out] at e1 e2
            have HE : Hid (tryC S L n = failC S k ∧ tryN S L n = k ∧ tryE S L n = 22) := ⟨e1, e2, e3⟩
            have hc2 : ∀ m, ((w1.drewN m).setCell ⟨g3, k, none⟩ (.int .i64 (f + 1))).cell? ⟨b, off + i, none⟩ = some (.int .i64 k) := by
              intro m
              obtain ⟨b', off', e', h'⟩ := HI.out _ (HNF.out m).2.1 i hlt
              have e2 := Option.some.inj e'
              injection e2 with e3 e4
              subst e3
              subst e4
              rw [← HZ.out] at h'
              exact h'
            clear hfind e1 e2 e3 hA1
            go_wp2_with fail
            go_quiet (fail)
            go_wp2_with fail
            go_region
            go_wp2_with fail
            go_ret2
            obtain ⟨e1, e2, e3⟩ := HE.out
            rw [e1, e2, e3]
            obtain ⟨x1, x2, x3⟩ := HNF.out (d + nq)
            exact ⟨rfl, ⟨g1, c1, g2, c2, g3, c3, g4, c4, x1.drewN 1⟩, below_drawn x2 1, x3.drewN 1⟩
          · have z1 : decide (lm < u + n) = false := by simp; omega
            rw [z1] at HOV
            clear f3 k3 HNF ef
            go_wp2_with fail
            go_quiet (fail)
            go_wp2_with fail
            refine ⟨⟨i + 1, d + nq, by omega, by go_num, fun j hj hji => ?_, by simp⟩, by simp [intOf]; omega⟩
            by_cases e : j = i
            · subst e; rw [← HZ.out, HOV.out]; rfl
            · exact HO.out j hj (by omega)
        · have z0 : decide (0 < n) = false := by simp; omega
          rw [z0] at HOV
          clear f3 k3 HNF ef
          go_wp2_with fail
          go_quiet (fail)
          go_wp2_with fail
          refine ⟨⟨i + 1, d + nq, by omega, by go_num, fun j hj hji => ?_, by simp⟩, by simp [intOf]; omega⟩
          by_cases e : j = i
          · subst e; rw [← HZ.out, HOV.out]; rfl
          · exact HO.out j hj (by omega)
      · obtain rfl : i = L.length := by omega
        have hil : decide ((L.length : Int) < (L.length : Int)) = false := by simp
        obtain ⟨e1, e2, e3⟩ := try_ok HK.out (find_end fun j hj => HO.out j hj hj)
        have HE : Hid (tryC S L n = growC S L n ∧ tryN S L n = -1 ∧ tryE S L n = 0) := ⟨e1, e2, e3⟩
        have HM0 : Hid (RefAt B (w1.drewN d) r g1 c1 g2 c2 g3 c3 g4 c4 (growC S (L.take 0) n) ∧ Below B w (w1.drewN d) ∧ Ty qt w (w1.drewN d)) := by
          rw [List.take_zero, grow_nil]
          exact ⟨hA1.drewN d, below_drawn HB1.out d, HT1.out.drewN d⟩
        clear e1 e2 e3 hA1
        go_wp2_with fail
        go_loopw [9] (fun s9 wr => ∃ i : Nat, i ≤ L.length ∧ s9 = .int .i64 i ∧ RefAt B wr r g1 c1 g2 c2 g3 c3 g4 c4 (growC S (L.take i) n) ∧ Below B w wr ∧ Ty qt w wr) (fun s9 _ => L.length - (intOf s9).toNat)
        case atStart => exact ⟨0, by omega, rfl, HM0.out⟩
        case round =>
          obtain ⟨i, hi, rfl, hA, hb, ht⟩ := hrel
          clear HM0
          by_cases hlt : i < L.length
          · have hil : decide ((i : Int) < (L.length : Int)) = true := by simp; omega
            obtain ⟨b, off, rfl, hc⟩ := (HI.out wr hb) i hlt
            have hg := HG.out L[i] (List.getElem_mem hlt)
            obtain ⟨t1, t2, t3⟩ := grow_take (S := S) (n := n) HD.out hlt
            obtain ⟨z, hz⟩ : ∃ z, z = L[i] := ⟨_, rfl⟩
            rw [← hz] at hc hg t1 t2 t3
            obtain ⟨k, rfl⟩ := Int.eq_ofNat_of_zero_le hg.1
            have hk : k < 64 := by omega
            have z64 : decide ((k : Int) < 64) = true := by simp; omega
            have HZ : Hid ((k : Int) = L[i]) := hz
            obtain ⟨p1, p2, p3, p4⟩ := hA.ptrs
            have k1 := hA.r1.at hk
            have f1 := hA.r1.frozen k
            have hub := H0.out.u k
            have hA5 := hA.setU k (S.u k + n) hk
            have hlo1 := hA.r1.lo.1
            have hb5 := hb.setCell (p := ⟨g1, k, none⟩) hlo1 (.int .i64 (S.u k + n))
            have ht5 : Ty qt w (wr.setCell ⟨g1, k, none⟩ (.int .i64 (S.u k + n))) := ht.trans (Ty.set3 hA.r1 k _ hk)
            rw [t2] at k1
            have HM5 : Hid (RefAt B ((wr.setCell ⟨g1, k, none⟩ (.int .i64 (S.u k + n))).drewN 1) r g1 c1 g2 c2 g3 c3 g4 c4 ⟨upd (growC S (L.take i) n).u k (S.u k + n), S.l, S.f, (growC S (L.take i) n).p⟩ ∧ Below B w ((wr.setCell ⟨g1, k, none⟩ (.int .i64 (S.u k + n))).drewN 1) ∧ Ty qt w ((wr.setCell ⟨g1, k, none⟩ (.int .i64 (S.u k + n))).drewN 1)) := ⟨hA5.drewN 1, below_drawn hb5 1, ht5.drewN 1⟩
            have HT : Hid (growC S (L.take (i + 1)) n = ⟨upd (growC S (L.take i) n).u k (S.u k + n), S.l, S.f, upd (growC S (L.take i) n).p k (max (S.p k) (S.u k + n))⟩ ∧ (growC S (L.take i) n).p k = S.p k) := ⟨t1, t3⟩
            obtain ⟨u, hu⟩ : ∃ x, x = S.u k := ⟨_, rfl⟩
            obtain ⟨p, hp⟩ : ∃ x, x = S.p k := ⟨_, rfl⟩
            rw [← hu] at k1 hub HM5 HT
            rw [← hp] at HT
            have ew : IntKind.i64.wrap (u + n) = u + n := by rw [IntKind.wrap_i64]; omega
            clear hz hu hg t1 t2 t3 hA5 hb5 ht5 hA hb ht hp
            go_wp2_with fail
            go_region
            obtain ⟨w5, hw5⟩ : ∃ w5, w5 = (wr.setCell ⟨g1, k, none⟩ (.int .i64 (u + n))).drewN 1 := ⟨_, rfl⟩
            have HW : Hid ((wr.setCell ⟨g1, k, none⟩ (.int .i64 (u + n))).drew = w5) := hw5.symm
            rw [HW.out]
            rw [← hw5] at HM5
            clear hw5 HW hc p1 p2 p3 p4 k1 f1 hlo1
            obtain ⟨hA5, hb5, ht5⟩ := HM5.out
            obtain ⟨b', off', e', hc⟩ := HI.out w5 hb5 i hlt
            have e2 := Option.some.inj e'
            injection e2 with e3 e4
            subst e3
            subst e4
            rw [← HZ.out] at hc
            obtain ⟨p1, p2, p3, p4⟩ := hA5.ptrs
            have k1 : w5.cell? ⟨g1, k, none⟩ = some (.int .i64 (u + n)) := by
              have := hA5.r1.at hk
              rw [this]
              simp [upd_same]
            have k4 : w5.cell? ⟨g4, k, none⟩ = some (.int .i64 p) := by
              have := hA5.r4.at hk
              rw [this]
              show some (Value.int .i64 ((growC S (L.take i) n).p k)) = _
              rw [HT.out.2]
            have f4 := hA5.r4.frozen k
            have HM6 : Hid (RefAt B ((w5.setCell ⟨g4, k, none⟩ (.int .i64 (max p (u + n)))).drewN 1) r g1 c1 g2 c2 g3 c3 g4 c4 (growC S (L.take (i + 1)) n) ∧ Below B w ((w5.setCell ⟨g4, k, none⟩ (.int .i64 (max p (u + n)))).drewN 1) ∧ Ty qt w ((w5.setCell ⟨g4, k, none⟩ (.int .i64 (max p (u + n)))).drewN 1)) := by
              rw [HT.out.1]
              exact ⟨(hA5.setP k _ hk).drewN 1, below_drawn (hb5.setCell (p := ⟨g4, k, none⟩) hA5.r4.lo.1 _) 1, (ht5.trans (Ty.set3 hA5.r4 k _ hk)).drewN 1⟩
            have HX : Hid ((if p < u + n then u + n else p) = max p (u + n)) := by
              show _ = _
              split <;> omega
            have hc' := hc
            have hB6 := hb5.setCell (p := ⟨g4, k, none⟩) hA5.r4.lo.1 (.int .i64 (if p < u + n then u + n else p))
            have hcS : (w5.setCell ⟨g4, k, none⟩ (.int .i64 (if p < u + n then u + n else p))).cell? ⟨b, off + i, none⟩ = some (.int .i64 k) := by
              obtain ⟨b', off', e', h'⟩ := HI.out _ hB6 i hlt
              have e2 := Option.some.inj e'
              injection e2 with e3 e4
              subst e3
              subst e4
              rw [← HZ.out] at h'
              exact h'
            have hA6 := hA5.setP k (if p < u + n then u + n else p) hk
            have HS0 : Hid (w5.drew.cell? ⟨r, 0, none⟩ = some (.slice (some ⟨g1, 0, none⟩) 64 c1) ∧ w5.drew.cell? ⟨r, 3, none⟩ = some (.slice (some ⟨g4, 0, none⟩) 64 c4) ∧ w5.drew.cell? ⟨b, off + i, none⟩ = some (.int .i64 k) ∧ w5.drew.cell? ⟨g1, k, none⟩ = some (.int .i64 (u + n))) := ⟨p1, p4, hc, k1⟩
            have HS1 : Hid ((w5.drew.setCell ⟨g4, k, none⟩ (.int .i64 (if p < u + n then u + n else p))).cell? ⟨r, 0, none⟩ = some (.slice (some ⟨g1, 0, none⟩) 64 c1) ∧ (w5.drew.setCell ⟨g4, k, none⟩ (.int .i64 (if p < u + n then u + n else p))).cell? ⟨r, 3, none⟩ = some (.slice (some ⟨g4, 0, none⟩) 64 c4) ∧ (w5.drew.setCell ⟨g4, k, none⟩ (.int .i64 (if p < u + n then u + n else p))).cell? ⟨b, off + i, none⟩ = some (.int .i64 k) ∧ (w5.drew.setCell ⟨g4, k, none⟩ (.int .i64 (if p < u + n then u + n else p))).cell? ⟨g1, k, none⟩ = some (.int .i64 (u + n))) := by
              refine ⟨hA6.ptrs.1, hA6.ptrs.2.2.2, hcS, ?_⟩
              have := hA6.r1.at hk
              rw [show (w5.drew.setCell ⟨g4, k, none⟩ (.int .i64 (if p < u + n then u + n else p))).cell? ⟨g1, k, none⟩ = _ from this]
              simp [upd_same]
            clear hA5 hb5 ht5 e' HM5 HT hc' hB6 hcS hA6
            have hk0 : (0 : Int) ≤ (k : Int) := by omega
            have hk1 : (k : Int) < 64 := by omega
            go_wp2_with fail
            have fd : w5.drew.frozen? ⟨g4, k, none⟩ = false := f4
            have kd : w5.drew.cell? ⟨g4, k, none⟩ = some (.int .i64 p) := k4
            refine wp_region_held_drew (S := fun w' => w'.cell? ⟨r, 0, none⟩ = some (.slice (some ⟨g1, 0, none⟩) 64 c1) ∧ w'.cell? ⟨r, 3, none⟩ = some (.slice (some ⟨g4, 0, none⟩) 64 c4) ∧ w'.cell? ⟨b, off + i, none⟩ = some (.int .i64 k) ∧ w'.cell? ⟨g1, k, none⟩ = some (.int .i64 (u + n))) (by kernel_rfl) HS0.out (fun hHeld => ?_)
            refine wpAnyH_take (i := 0) (oi := ⟨some 90, _, _, _, _, _⟩) (v := .pointer (some ⟨r, 0, none⟩)) rfl (by kernel_rfl) (by kernel_rfl) (by kernel_rfl) (fun _ _ _ h => h) (Or.inl ⟨by rfl, fun w' hS' => ?_⟩) hHeld ?_
            · (obtain ⟨s1, s2, s3, s4⟩ := hS'; go_simp)
            simp only [Act.put, List.setIfInBounds_toArray, List.set_cons_zero, List.set_cons_succ]
            refine wpAnyH_take (i := 1) (oi := ⟨some 91, _, _, _, _, _⟩) (v := .pointer (some ⟨r, 0, none⟩)) rfl (by kernel_rfl) (by kernel_rfl) (by kernel_rfl) (fun _ _ _ h => h) (Or.inl ⟨by rfl, fun w' hS' => ?_⟩) hHeld ?_
            · (obtain ⟨s1, s2, s3, s4⟩ := hS'; go_simp)
            simp only [Act.put, List.setIfInBounds_toArray, List.set_cons_zero, List.set_cons_succ]
            refine wpAnyH_take (i := 2) (oi := ⟨some 92, _, _, _, _, _⟩) (v := .pointer (some ⟨r, 3, none⟩)) rfl (by kernel_rfl) (by kernel_rfl) (by kernel_rfl) (fun _ _ _ h => h) (Or.inl ⟨by rfl, fun w' hS' => ?_⟩) hHeld ?_
            · (obtain ⟨s1, s2, s3, s4⟩ := hS'; go_simp)
            simp only [Act.put, List.setIfInBounds_toArray, List.set_cons_zero, List.set_cons_succ]
            refine wpAnyH_take (i := 3) (oi := ⟨some 93, _, _, _, _, _⟩) (v := .slice (some ⟨g4, 0, none⟩) 64 c4) rfl (by kernel_rfl) (by kernel_rfl) (by kernel_rfl) (fun _ _ _ h => h) (Or.inl ⟨by rfl, fun w' hS' => ?_⟩) hHeld ?_
            · (obtain ⟨s1, s2, s3, s4⟩ := hS'; go_simp)
            simp only [Act.put, List.setIfInBounds_toArray, List.set_cons_zero, List.set_cons_succ]
            refine wpAnyH_take (i := 4) (oi := ⟨some 94, _, _, _, _, _⟩) (v := .slice (some ⟨b, off, none⟩) L.length cap) rfl (by kernel_rfl) (by kernel_rfl) (by kernel_rfl) (fun _ _ _ h => h) (Or.inl ⟨by rfl, fun w' hS' => ?_⟩) hHeld ?_
            · (obtain ⟨s1, s2, s3, s4⟩ := hS'; go_simp)
            simp only [Act.put, List.setIfInBounds_toArray, List.set_cons_zero, List.set_cons_succ]
            refine wpAnyH_take (i := 5) (oi := ⟨some 95, _, _, _, _, _⟩) (v := .int .i64 i) rfl (by kernel_rfl) (by kernel_rfl) (by kernel_rfl) (fun _ _ _ h => h) (Or.inl ⟨by rfl, fun w' hS' => ?_⟩) hHeld ?_
            · (obtain ⟨s1, s2, s3, s4⟩ := hS'; go_simp)
            simp only [Act.put, List.setIfInBounds_toArray, List.set_cons_zero, List.set_cons_succ]
            refine wpAnyH_take (i := 6) (oi := ⟨some 96, _, _, _, _, _⟩) (v := .pointer (some ⟨b, off + i, none⟩)) rfl (by kernel_rfl) (by kernel_rfl) (by kernel_rfl) (fun _ _ _ h => h) (Or.inl ⟨by rfl, fun w' hS' => ?_⟩) hHeld ?_
            · (obtain ⟨s1, s2, s3, s4⟩ := hS'; go_simp)
            simp only [Act.put, List.setIfInBounds_toArray, List.set_cons_zero, List.set_cons_succ]
            refine wpAnyH_take (i := 7) (oi := ⟨some 97, _, _, _, _, _⟩) (v := .int .i64 k) rfl (by kernel_rfl) (by kernel_rfl) (by kernel_rfl) (fun _ _ _ h => h) (Or.inl ⟨by rfl, fun w' hS' => ?_⟩) hHeld ?_
            · (obtain ⟨s1, s2, s3, s4⟩ := hS'; go_simp)
            simp only [Act.put, List.setIfInBounds_toArray, List.set_cons_zero, List.set_cons_succ]
            refine wpAnyH_take (i := 8) (oi := ⟨some 98, _, _, _, _, _⟩) (v := .pointer (some ⟨r, 0, none⟩)) rfl (by kernel_rfl) (by kernel_rfl) (by kernel_rfl) (fun _ _ _ h => h) (Or.inl ⟨by rfl, fun w' hS' => ?_⟩) hHeld ?_
            · (obtain ⟨s1, s2, s3, s4⟩ := hS'; go_simp)
            simp only [Act.put, List.setIfInBounds_toArray, List.set_cons_zero, List.set_cons_succ]
            refine wpAnyH_take (i := 9) (oi := ⟨some 99, _, _, _, _, _⟩) (v := .pointer (some ⟨r, 0, none⟩)) rfl (by kernel_rfl) (by kernel_rfl) (by kernel_rfl) (fun _ _ _ h => h) (Or.inl ⟨by rfl, fun w' hS' => ?_⟩) hHeld ?_
            · (obtain ⟨s1, s2, s3, s4⟩ := hS'; go_simp)
            simp only [Act.put, List.setIfInBounds_toArray, List.set_cons_zero, List.set_cons_succ]
            refine wpAnyH_take (i := 10) (oi := ⟨some 100, _, _, _, _, _⟩) (v := .pointer (some ⟨r, 3, none⟩)) rfl (by kernel_rfl) (by kernel_rfl) (by kernel_rfl) (fun _ _ _ h => h) (Or.inl ⟨by rfl, fun w' hS' => ?_⟩) hHeld ?_
            · (obtain ⟨s1, s2, s3, s4⟩ := hS'; go_simp)
            simp only [Act.put, List.setIfInBounds_toArray, List.set_cons_zero, List.set_cons_succ]
            refine wpAnyH_take (i := 11) (oi := ⟨some 101, _, _, _, _, _⟩) (v := .slice (some ⟨g4, 0, none⟩) 64 c4) rfl (by kernel_rfl) (by kernel_rfl) (by kernel_rfl) (fun _ _ _ h => h) (Or.inl ⟨by rfl, fun w' hS' => ?_⟩) hHeld ?_
            · (obtain ⟨s1, s2, s3, s4⟩ := hS'; go_simp)
            simp only [Act.put, List.setIfInBounds_toArray, List.set_cons_zero, List.set_cons_succ]
            refine wpAnyH_take (i := 12) (oi := ⟨some 102, _, _, _, _, _⟩) (v := .slice (some ⟨b, off, none⟩) L.length cap) rfl (by kernel_rfl) (by kernel_rfl) (by kernel_rfl) (fun _ _ _ h => h) (Or.inl ⟨by rfl, fun w' hS' => ?_⟩) hHeld ?_
            · (obtain ⟨s1, s2, s3, s4⟩ := hS'; go_simp)
            simp only [Act.put, List.setIfInBounds_toArray, List.set_cons_zero, List.set_cons_succ]
            refine wpAnyH_take (i := 13) (oi := ⟨some 103, _, _, _, _, _⟩) (v := .int .i64 i) rfl (by kernel_rfl) (by kernel_rfl) (by kernel_rfl) (fun _ _ _ h => h) (Or.inl ⟨by rfl, fun w' hS' => ?_⟩) hHeld ?_
            · (obtain ⟨s1, s2, s3, s4⟩ := hS'; go_simp)
            simp only [Act.put, List.setIfInBounds_toArray, List.set_cons_zero, List.set_cons_succ]
            refine wpAnyH_take (i := 14) (oi := ⟨some 104, _, _, _, _, _⟩) (v := .pointer (some ⟨b, off + i, none⟩)) rfl (by kernel_rfl) (by kernel_rfl) (by kernel_rfl) (fun _ _ _ h => h) (Or.inl ⟨by rfl, fun w' hS' => ?_⟩) hHeld ?_
            · (obtain ⟨s1, s2, s3, s4⟩ := hS'; go_simp)
            simp only [Act.put, List.setIfInBounds_toArray, List.set_cons_zero, List.set_cons_succ]
            refine wpAnyH_take (i := 15) (oi := ⟨some 105, _, _, _, _, _⟩) (v := .int .i64 k) rfl (by kernel_rfl) (by kernel_rfl) (by kernel_rfl) (fun _ _ _ h => h) (Or.inl ⟨by rfl, fun w' hS' => ?_⟩) hHeld ?_
            · (obtain ⟨s1, s2, s3, s4⟩ := hS'; go_simp)
            simp only [Act.put, List.setIfInBounds_toArray, List.set_cons_zero, List.set_cons_succ]
            refine wpAnyH_take (i := 16) (oi := ⟨some 106, _, _, _, _, _⟩) (v := .pointer (some ⟨g4, k, none⟩)) rfl (by kernel_rfl) (by kernel_rfl) (by kernel_rfl) (fun _ _ _ h => h) (Or.inl ⟨by rfl, fun w' hS' => ?_⟩) hHeld ?_
            · (obtain ⟨s1, s2, s3, s4⟩ := hS'; go_simp)
            simp only [Act.put, List.setIfInBounds_toArray, List.set_cons_zero, List.set_cons_succ]
            refine wpAnyH_take (i := 18) (oi := ⟨some 108, _, _, _, _, _⟩) (v := .pointer (some ⟨r, 0, none⟩)) rfl (by kernel_rfl) (by kernel_rfl) (by kernel_rfl) (fun _ _ _ h => h) (Or.inl ⟨by rfl, fun w' hS' => ?_⟩) hHeld ?_
            · (obtain ⟨s1, s2, s3, s4⟩ := hS'; go_simp)
            simp only [Act.put, List.setIfInBounds_toArray, List.set_cons_zero, List.set_cons_succ]
            refine wpAnyH_take (i := 19) (oi := ⟨some 109, _, _, _, _, _⟩) (v := .pointer (some ⟨r, 0, none⟩)) rfl (by kernel_rfl) (by kernel_rfl) (by kernel_rfl) (fun _ _ _ h => h) (Or.inl ⟨by rfl, fun w' hS' => ?_⟩) hHeld ?_
            · (obtain ⟨s1, s2, s3, s4⟩ := hS'; go_simp)
            simp only [Act.put, List.setIfInBounds_toArray, List.set_cons_zero, List.set_cons_succ]
            refine wpAnyH_take (i := 20) (oi := ⟨some 110, _, _, _, _, _⟩) (v := .pointer (some ⟨r, 0, none⟩)) rfl (by kernel_rfl) (by kernel_rfl) (by kernel_rfl) (fun _ _ _ h => h) (Or.inl ⟨by rfl, fun w' hS' => ?_⟩) hHeld ?_
            · (obtain ⟨s1, s2, s3, s4⟩ := hS'; go_simp)
            simp only [Act.put, List.setIfInBounds_toArray, List.set_cons_zero, List.set_cons_succ]
            refine wpAnyH_take (i := 21) (oi := ⟨some 111, _, _, _, _, _⟩) (v := .slice (some ⟨g1, 0, none⟩) 64 c1) rfl (by kernel_rfl) (by kernel_rfl) (by kernel_rfl) (fun _ _ _ h => h) (Or.inl ⟨by rfl, fun w' hS' => ?_⟩) hHeld ?_
            · (obtain ⟨s1, s2, s3, s4⟩ := hS'; go_simp)
            simp only [Act.put, List.setIfInBounds_toArray, List.set_cons_zero, List.set_cons_succ]
            refine wpAnyH_take (i := 22) (oi := ⟨some 112, _, _, _, _, _⟩) (v := .slice (some ⟨b, off, none⟩) L.length cap) rfl (by kernel_rfl) (by kernel_rfl) (by kernel_rfl) (fun _ _ _ h => h) (Or.inl ⟨by rfl, fun w' hS' => ?_⟩) hHeld ?_
            · (obtain ⟨s1, s2, s3, s4⟩ := hS'; go_simp)
            simp only [Act.put, List.setIfInBounds_toArray, List.set_cons_zero, List.set_cons_succ]
            refine wpAnyH_take (i := 23) (oi := ⟨some 113, _, _, _, _, _⟩) (v := .int .i64 i) rfl (by kernel_rfl) (by kernel_rfl) (by kernel_rfl) (fun _ _ _ h => h) (Or.inl ⟨by rfl, fun w' hS' => ?_⟩) hHeld ?_
            · (obtain ⟨s1, s2, s3, s4⟩ := hS'; go_simp)
            simp only [Act.put, List.setIfInBounds_toArray, List.set_cons_zero, List.set_cons_succ]
            refine wpAnyH_take (i := 24) (oi := ⟨some 114, _, _, _, _, _⟩) (v := .pointer (some ⟨b, off + i, none⟩)) rfl (by kernel_rfl) (by kernel_rfl) (by kernel_rfl) (fun _ _ _ h => h) (Or.inl ⟨by rfl, fun w' hS' => ?_⟩) hHeld ?_
            · (obtain ⟨s1, s2, s3, s4⟩ := hS'; go_simp)
            simp only [Act.put, List.setIfInBounds_toArray, List.set_cons_zero, List.set_cons_succ]
            refine wpAnyH_take (i := 25) (oi := ⟨some 115, _, _, _, _, _⟩) (v := .int .i64 k) rfl (by kernel_rfl) (by kernel_rfl) (by kernel_rfl) (fun _ _ _ h => h) (Or.inl ⟨by rfl, fun w' hS' => ?_⟩) hHeld ?_
            · (obtain ⟨s1, s2, s3, s4⟩ := hS'; go_simp)
            simp only [Act.put, List.setIfInBounds_toArray, List.set_cons_zero, List.set_cons_succ]
            refine wpAnyH_take (i := 26) (oi := ⟨some 116, _, _, _, _, _⟩) (v := .pointer (some ⟨g1, k, none⟩)) rfl (by kernel_rfl) (by kernel_rfl) (by kernel_rfl) (fun _ _ _ h => h) (Or.inl ⟨by rfl, fun w' hS' => ?_⟩) hHeld ?_
            · (obtain ⟨s1, s2, s3, s4⟩ := hS'; go_simp)
            simp only [Act.put, List.setIfInBounds_toArray, List.set_cons_zero, List.set_cons_succ]
            refine wpAnyH_take (i := 27) (oi := ⟨some 117, _, _, _, _, _⟩) (v := .int .i64 (u + n)) rfl (by kernel_rfl) (by kernel_rfl) (by kernel_rfl) (fun _ _ _ h => h) (Or.inl ⟨by rfl, fun w' hS' => ?_⟩) hHeld ?_
            · (obtain ⟨s1, s2, s3, s4⟩ := hS'; go_simp)
            simp only [Act.put, List.setIfInBounds_toArray, List.set_cons_zero, List.set_cons_succ]
            refine wpAnyH_ready (rs := [17]) (by kernel_rfl) (by simp) ?_
            refine AllReadyH.cons (o := ⟨some 107, _, _, _, _, _⟩) rfl (fun K hK => ?_) AllReadyH.nil
            go_simp
            refine hK.out _ _ HS0.out (fun hHeld => ?_)
            clear hK K
            try simp only [Act.put, List.setIfInBounds_toArray, List.set_cons_zero, List.set_cons_succ]
            refine wpAnyH_ready (rs := [28]) (by kernel_rfl) (by simp) ?_
            refine AllReadyH.cons (o := ⟨some 118, _, _, _, _, _⟩) rfl (fun K hK => ?_) AllReadyH.nil
            go_simp
            refine hK.out _ _ HS0.out (fun hHeld => ?_)
            clear hK K
            try simp only [Act.put, List.setIfInBounds_toArray, List.set_cons_zero, List.set_cons_succ]
            refine wpAnyH_take (i := 29) (oi := ⟨some 119, _, _, _, _, _⟩) (v := .pointer (some ⟨g4, k, none⟩)) rfl (by kernel_rfl) (by kernel_rfl) (by kernel_rfl) (fun _ _ _ h => h) (Or.inl ⟨by rfl, fun w' hS' => ?_⟩) hHeld ?_
            · (obtain ⟨s1, s2, s3, s4⟩ := hS'; go_simp)
            simp only [Act.put, List.setIfInBounds_toArray, List.set_cons_zero, List.set_cons_succ]
            refine wpAnyH_ready (rs := [30]) (by kernel_rfl) (by simp) ?_
            refine AllReadyH.cons (o := ⟨none, _, _, _, _, _⟩) rfl (fun K hK => ?_) AllReadyH.nil
            go_simp
            refine hK.out _ _ HS1.out (fun hHeld => ?_)
            clear hK K
            (try simp only [Act.put, List.setIfInBounds_toArray, List.set_cons_zero, List.set_cons_succ])
            refine wpAnyH_done (by kernel_rfl) ?_ _
            rw [HX.out]
            go_wp2_with fail
            exact ⟨⟨i + 1, by omega, by go_num, HM6.out⟩, by simp [intOf]; omega⟩
          · obtain rfl : i = L.length := by omega
            rw [List.take_of_length_le (Nat.le_refl _)] at hA
            have hil : decide ((L.length : Int) < (L.length : Int)) = false := by simp
            go_wp2_with fail
            go_ret2
            obtain ⟨e1, e2, e3⟩ := HE.out
            rw [e1, e2, e3]
            exact ⟨rfl, ⟨g1, c1, g2, c2, g3, c3, g4, c4, hA⟩, hb, ht⟩
end Go.Proofs.Ytpageadhmgoddaa
