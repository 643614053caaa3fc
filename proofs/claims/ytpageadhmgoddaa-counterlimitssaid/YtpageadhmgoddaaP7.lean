/-
  The contract of Give.
-/
import Derived.Test.YtpageadhmgoddaaP6
namespace Go.Proofs.Ytpageadhmgoddaa
open Go.RowKit

set_option maxRecDepth 100000 in
set_option maxHeartbeats 4000000 in
theorem pgive (B N c : Nat) (S : Cs) (a : Option Addr) (cap : Nat) (L : List Int) (n : Int) (w : World) (h : CtIs B N w c S) (hI : Stay B w a L) (hl : L.length ≤ 1000000) :
    Calls Try.prog 15 #[.pointer (some ⟨c, 0, none⟩), .slice a L.length cap, .int .i64 n] w fun e w' => e = .returned (.int .i64 (giveE S L n)) ∧ CtIs B N w' c (giveC S L n) ∧ Below B w w' ∧ Ty pt w w' ∧ Apart c w w' := by
  have hBc := h.lo
  have hB : B ≤ w.heap.size := Nat.le_trans h.lo (Nat.le_of_lt h.lt)
  have HI : Hid (Stay B w a L) := hI
  have HR : Hid (∀ W, Ints W a L → Calls Try.prog 24 #[.slice a L.length cap, .int .i64 n] W fun e w' => e = .returned (.bool (okC L n)) ∧ Below W.heap.size W w') := fun W h => pright a cap L n W h hl
  have HOK : Hid (OkC N (giveC S L n)) := ok_give h.ok
  have H0 : Hid (OkC N S) := h.ok
  obtain ⟨b1, b2, hb0⟩ := boxes w c n
  obtain ⟨W0, hW0⟩ : ∃ W0, W0 = (w.alloc (.cells #[.pointer (some ⟨c, 0, none⟩)] 25)).alloc (.cells #[.int .i64 n] 3) := ⟨_, rfl⟩
  rw [← hW0] at b1 b2 hb0
  have hM0 : Mid B w W0 c S n w.heap.size (w.heap.size + 1) := ⟨h.row.later hb0, b1, b2, hb0.mono hB, Ty.ofBelow hb0, Apart.ofBelow hb0⟩
  have k2 : W0.cell? ⟨w.heap.size + 1, 0, none⟩ = some (.int .i64 n) := by rw [b2.cell]; rfl
  clear hI h b1 b2 hb0
  go_enter Try.func15, Try.ntmps15
  go_wp2_with fail
  rw [← hW0]
  refine (HR.out W0 (HI.out _ hM0.bel hM0.ty)).mono ?_
  rintro e w1 ⟨rfl, hb1⟩
  have hM1 := hM0.later hb1 hB
  clear hM0 hb1 hW0 k2
  cases hok : okC L n with
  | false =>
    obtain ⟨e1, e2⟩ := give_bad (S := S) hok
    have HE : Hid (giveC S L n = S ∧ giveE S L n = 1) := ⟨e1, e2⟩
    clear e1 e2 hok
    go_wp2_with fail
    go_ret
    obtain ⟨e1, e2⟩ := HE.out
    have := HOK.out
    rw [e1] at this
    rw [e1, e2]
    exact ⟨rfl, ⟨hM1.row, hBc, this⟩, hM1.bel, hM1.ty, hM1.ap⟩
  | true =>
    obtain ⟨hn, hg, hd⟩ := okC_parts hok
    have HX : Hid (Calls Try.prog 30 #[.slice a L.length cap, .func (.func 31) #[] #[.pointer (some ⟨w.heap.size, 0, none⟩), .pointer (some ⟨w.heap.size + 1, 0, none⟩)]] w1 fun e w' => ((∃ g, L.find? (lack S n) = some g) ∧ e = .returned (.bool true) ∧ Below w1.heap.size w1 w') ∨ (L.find? (lack S n) = none ∧ e = .returned (.bool false) ∧ Below w1.heap.size w1 w')) := by
      show Calls _ _ _ _ _
      refine (pcontains 31 _ (Or.inr (Or.inl ⟨rfl, _, _, rfl⟩)) a cap L w1 (fun i => lack S n (L.getD i 0)) (fun i W => Below w1.heap.size w1 W) (fun W => Below w1.heap.size w1 W) (Below.refl _ _) (fun i W hW => HI.out W (bel_trans hM1.bel hW hB) (hM1.ty.trans (Ty.ofBelow hW))) ?_ hl).mono ?_
      · intro i hi W hW
        have e1 : L.getD i 0 = L[i] := by simp [hi]
        have hM := hM1.later hW hB
        refine (plack B N c (w.heap.size + 1) w.heap.size S n L[i] W ⟨hM.row, hBc, H0.out⟩ (by rw [hM.b2.cell]; rfl) (by rw [hM.b1.cell]; rfl)).mono ?_
        rintro e w' ⟨g1, g2⟩
        have g3 := bel_trans hW g2 (Nat.le_refl _)
        exact ⟨by rw [e1]; exact g1, fun _ => g3, fun _ => g3⟩
      · rintro e w' (⟨i, hi, hp, hb, rfl, hK⟩ | ⟨hp, rfl, hJ⟩)
        · refine Or.inl ⟨⟨L[i], find_at hi ?_ fun j hj hji => ?_⟩, rfl, hK⟩
          · have e1 : L.getD i 0 = L[i] := by simp [hi]
            rw [← e1]; exact hp
          · have e1 : L.getD j 0 = L[j] := by simp [hj]
            rw [← e1]; exact hb j hji
        · refine Or.inr ⟨find_end fun j hj => ?_, rfl, hJ⟩
          have e1 : L.getD j 0 = L[j] := by simp [hj]
          rw [← e1]; exact hp j hj
    go_wp2_with fail
    refine HX.out.mono ?_
    rintro e w2 (⟨⟨g, hf⟩, rfl, hb2⟩ | ⟨hf, rfl, hb2⟩)
    · have hM2 := hM1.later hb2 hB
      obtain ⟨e1, e2⟩ := give_fail hok hf
      have HE : Hid (giveC S L n = S ∧ giveE S L n = 2) := ⟨e1, e2⟩
      clear e1 e2 hok hf hM1 hb2 HX hg hd
      go_wp2_with fail
      go_ret
      obtain ⟨e1, e2⟩ := HE.out
      have := HOK.out
      rw [e1] at this
      rw [e1, e2]
      exact ⟨rfl, ⟨hM2.row, hBc, this⟩, hM2.bel, hM2.ty, hM2.ap⟩
    · have hM2 := hM1.later hb2 hB
      clear hM1 hb2 HX
      obtain ⟨e1, e2⟩ := give_ok hok hf
      have HE : Hid (giveC S L n = shrC S L n ∧ giveE S L n = 0) := ⟨e1, e2⟩
      have HF : Hid (∀ x ∈ L, n ≤ S.u x) := fun x hx => by
        have := find_none hf x hx
        simp only [lack, decide_eq_false_iff_not] at this
        omega
      clear e1 e2 hok hf
      have HGR : Hid (∀ x ∈ L, 0 ≤ x ∧ x < 64) := hg
      have HD : Hid (L.Nodup) := hd
      have HMM : Hid (Mid B w w2 c (shrC S (L.take 0) n) n w.heap.size (w.heap.size + 1)) := by
        show Mid _ _ _ _ _ _ _ _
        rw [List.take_zero, shr_nil]; exact hM2
      clear hg hd hM2
      go_wp2_with fail
      go_loopw [18] (fun s18 wr => ∃ i : Nat, i ≤ L.length ∧ s18 = .int .i64 i ∧ Mid B w wr c (shrC S (L.take i) n) n w.heap.size (w.heap.size + 1)) (fun s18 _ => L.length - (intOf s18).toNat)
      case atStart => exact ⟨0, by omega, rfl, HMM.out⟩
      case round =>
        obtain ⟨i, hi, rfl, hM⟩ := hrel
        clear HMM
        by_cases hlt : i < L.length
        · have hil : decide ((i : Int) < (L.length : Int)) = true := by simp; omega
          obtain ⟨b, off, rfl, hc⟩ := HI.out wr hM.bel hM.ty i hlt
          obtain ⟨t1, t2⟩ := shr_take (S := S) (n := n) HD.out hlt
          obtain ⟨g, hgg⟩ : ∃ g, g = L[i] := ⟨_, rfl⟩
          have hgr := HGR.out L[i] (List.getElem_mem hlt)
          have hfr := HF.out L[i] (List.getElem_mem hlt)
          rw [← hgg] at hc hgr t1 t2 hfr
          obtain ⟨k, rfl⟩ := Int.eq_ofNat_of_zero_le hgr.1
          have hk : k < 64 := by omega
          have hub := H0.out.u k
          have kc : wr.cell? ⟨w.heap.size, 0, none⟩ = some (.pointer (some ⟨c, 0, none⟩)) := by rw [hM.b1.cell]; rfl
          have kn : wr.cell? ⟨w.heap.size + 1, 0, none⟩ = some (.int .i64 n) := by rw [hM.b2.cell]; rfl
          have ku : wr.cell? ⟨c, k * 4, none⟩ = some (.int .i64 (S.u k)) := by rw [hM.row.cell, ← t2]; exact cc_at _ k 0 hk (by omega)
          have fu := hM.row.frozen (k * 4)
          have hN1 := hM.row.set (k * 4) (.int .i64 (S.u k - n))
          rw [cc_u _ _ _ hk] at hN1
          have HMt : Hid (Mid B w (wr.setCell ⟨c, k * 4, none⟩ (.int .i64 (S.u k - n))) c (shrC S (L.take (i + 1)) n) n w.heap.size (w.heap.size + 1)) := by
            show Mid _ _ _ _ _ _ _ _
            refine hM.turn ?_ (But.setCell c (k * 4) wr _) hBc
            rw [t1]
            exact hN1
          obtain ⟨u, hu⟩ : ∃ u, u = S.u k := ⟨_, rfl⟩
          rw [← hu] at hub ku HMt hfr
          have ew : IntKind.i64.wrap (u - n) = u - n := by rw [IntKind.wrap_i64]; omega
          clear t1 t2 hgg hgr hM HI HGR HD hN1 HF hu
          go_wp2_with fail
          go_region
          all_goals
            go_wp2_with fail
            have hMf := HMt.out
            exact ⟨⟨i + 1, by omega, by go_num, ⟨hMf.row.drewN 1, hMf.b1.drewN 1, hMf.b2.drewN 1, below_drawn hMf.bel 1, hMf.ty.drewN 1, hMf.ap.drewN 1⟩⟩, by simp [intOf]; omega⟩
        · obtain rfl : i = L.length := by omega
          rw [List.take_of_length_le (Nat.le_refl _)] at hM
          have hil : decide ((L.length : Int) < (L.length : Int)) = false := by simp
          clear HI HGR HD HF
          go_wp2_with fail
          go_ret
          obtain ⟨e1, e2⟩ := HE.out
          have hoo := HOK.out
          rw [e1] at hoo
          rw [e1, e2]
          exact ⟨rfl, ⟨hM.row, hBc, hoo⟩, hM.bel, hM.ty, hM.ap⟩
end Go.Proofs.Ytpageadhmgoddaa
