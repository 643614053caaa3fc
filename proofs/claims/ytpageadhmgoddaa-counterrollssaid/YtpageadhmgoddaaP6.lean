/-
  The contracts of Try and Give.
-/
import Derived.Test.YtpageadhmgoddaaP5
namespace Go.Proofs.Ytpageadhmgoddaa
open Go.RowKit

/-- A chain that stays, whatever the counters above B do. -/
def Stay (B : Nat) (w : World) (a : Option Addr) (L : List Int) : Prop := ∀ W, Below B w W → Ty pt w W → Ints W a L
theorem Stay.mono {B : Nat} {w w' : World} {a : Option Addr} {L : List Int} (h : Stay B w a L) (hb : Below B w w') (ht : Ty pt w w') : Stay B w' a L := fun W h1 h2 => h W (hb.trans h1) (ht.trans h2)

/-- What a call of Try or Give lays first: the counter's pointer and the amount. -/
theorem boxes (w : World) (c : Nat) (n : Int) : RowAt ((w.alloc (.cells #[.pointer (some ⟨c, 0, none⟩)] 25)).alloc (.cells #[.int .i64 n] 3)) w.heap.size 25 [.pointer (some ⟨c, 0, none⟩)] ∧
    RowAt ((w.alloc (.cells #[.pointer (some ⟨c, 0, none⟩)] 25)).alloc (.cells #[.int .i64 n] 3)) (w.heap.size + 1) 3 [.int .i64 n] ∧ Below w.heap.size w ((w.alloc (.cells #[.pointer (some ⟨c, 0, none⟩)] 25)).alloc (.cells #[.int .i64 n] 3)) := by
  refine ⟨(RowAt.new w #[.pointer (some ⟨c, 0, none⟩)] 25).alloc _, ?_, (below_alloc _ _).trans ((below_alloc _ _).mono (by simp))⟩
  have := RowAt.new (w.alloc (.cells #[.pointer (some ⟨c, 0, none⟩)] 25)) #[.int .i64 n] 3
  rw [World.size_alloc] at this
  exact this
/-- In the midst of a call: where the counter is, what it holds, both boxes. -/
structure Mid (B : Nat) (w W : World) (c : Nat) (S : Cs) (n : Int) (bc bn : Nat) : Prop where
  row : RowAt W c 49 (cc S)
  b1 : RowAt W bc 25 [.pointer (some ⟨c, 0, none⟩)]
  b2 : RowAt W bn 3 [.int .i64 n]
  bel : Below B w W
  ty : Ty pt w W
  ap : Apart c w W
theorem Apart.drewN {p : Nat} {w w' : World} (h : Apart p w w') (n : Nat) : Apart p w (w'.drewN n) := ⟨h.os, h.tape, h.output, h.size, h.block⟩
theorem Mid.later {B : Nat} {w W W' : World} {c : Nat} {S : Cs} {n : Int} {bc bn : Nat} (h : Mid B w W c S n bc bn) (hb : Below W.heap.size W W') (hB : B ≤ w.heap.size) : Mid B w W' c S n bc bn :=
  ⟨h.row.later hb, h.b1.later hb, h.b2.later hb, bel_trans h.bel hb hB, h.ty.trans (Ty.ofBelow hb), h.ap.trans (Apart.ofBelow hb)⟩
theorem Mid.turn {B : Nat} {w W W' : World} {c : Nat} {S S' : Cs} {n : Int} {bc bn : Nat} (h : Mid B w W c S n bc bn) (hr : RowAt W' c 49 (cc S')) (hb : But c W W') (hB : B ≤ c) : Mid B w W' c S' n bc bn := by
  have n1 : bc ≠ c := fun e => by
    have h1 := h.row; have h2 := h.b1
    rw [e] at h2
    unfold RowAt at h1 h2
    rw [h1] at h2
    injection h2 with h3; injection h3 with h4 h5; cases h5
  have n2 : bn ≠ c := fun e => by
    have h1 := h.row; have h2 := h.b2
    rw [e] at h2
    unfold RowAt at h1 h2
    rw [h1] at h2
    injection h2 with h3; injection h3 with h4 h5; cases h5
  refine ⟨hr, h.b1.but hb n1, h.b2.but hb n2, h.bel.trans (hb.below hB), h.ty.trans ⟨hb.os, hb.tape, hb.output, Nat.le_of_eq hb.size.symm, fun k cur t ht hk => ?_⟩, h.ap.trans (Apart.ofBut hb)⟩
  rw [hb.block k (fun e => ?_)]
  · exact hk
  · subst e
    have h1 := h.row
    unfold RowAt at h1
    rw [h1] at hk
    injection hk with h3; injection h3 with h4 h5
    subst h5
    cases ht

set_option maxRecDepth 100000 in
set_option maxHeartbeats 4000000 in
theorem ptry (B N c : Nat) (S : Cs) (a : Option Addr) (cap : Nat) (L : List Int) (n : Int) (w : World) (h : CtIs B N w c S) (hI : Stay B w a L) (hl : L.length ≤ 1000000) (hN : N ≤ 1000000) :
    Calls Try.prog 13 #[.pointer (some ⟨c, 0, none⟩), .slice a L.length cap, .int .i64 n] w fun e w' => e = .returned (.tuple #[.int .i64 (tryN S L n), .int .i64 (tryE S L n)]) ∧ CtIs B (N + 1) w' c (tryC S L n) ∧ Below B w w' ∧ Ty pt w w' ∧ Apart c w w' := by
  have hBc := h.lo
  have hB : B ≤ w.heap.size := Nat.le_trans h.lo (Nat.le_of_lt h.lt)
  have HI : Hid (Stay B w a L) := hI
  have HR : Hid (∀ W, Ints W a L → Calls Try.prog 24 #[.slice a L.length cap, .int .i64 n] W fun e w' => e = .returned (.bool (okC L n)) ∧ Below W.heap.size W w') := fun W h => pright a cap L n W h hl
  have HOK : Hid (OkC (N + 1) (tryC S L n)) := ok_try h.ok
  have H0 : Hid (OkC N S) := h.ok
  obtain ⟨b1, b2, hb0⟩ := boxes w c n
  obtain ⟨W0, hW0⟩ : ∃ W0, W0 = (w.alloc (.cells #[.pointer (some ⟨c, 0, none⟩)] 25)).alloc (.cells #[.int .i64 n] 3) := ⟨_, rfl⟩
  rw [← hW0] at b1 b2 hb0
  have hM0 : Mid B w W0 c S n w.heap.size (w.heap.size + 1) := ⟨h.row.later hb0, b1, b2, hb0.mono hB, Ty.ofBelow hb0, Apart.ofBelow hb0⟩
  have k2 : W0.cell? ⟨w.heap.size + 1, 0, none⟩ = some (.int .i64 n) := by rw [b2.cell]; rfl
  clear hI h b1 b2 hb0
  go_enter Try.func13, Try.ntmps13
  go_wp2_with fail
  rw [← hW0]
  refine (HR.out W0 (HI.out _ hM0.bel hM0.ty)).mono ?_
  rintro e w1 ⟨rfl, hb1⟩
  have hM1 := hM0.later hb1 hB
  clear hM0 hb1 hW0 k2
  cases hok : okC L n with
  | false =>
    obtain ⟨e1, e2, e3⟩ := try_bad (S := S) hok
    have HE : Hid (tryC S L n = S ∧ tryN S L n = -1 ∧ tryE S L n = 1) := ⟨e1, e2, e3⟩
    clear e1 e2 e3 hok
    go_wp2_with fail
    go_ret2
    obtain ⟨e1, e2, e3⟩ := HE.out
    have := HOK.out
    rw [e1] at this
    rw [e1, e2, e3]
    exact ⟨rfl, ⟨hM1.row, hBc, this⟩, hM1.bel, hM1.ty, hM1.ap⟩
  | true =>
    obtain ⟨hn, hg, hd⟩ := okC_parts hok
    have HX : Hid (Calls Try.prog 25 #[.slice a L.length cap, .func (.func 26) #[] #[.pointer (some ⟨w.heap.size + 1, 0, none⟩), .pointer (some ⟨w.heap.size, 0, none⟩)]] w1 fun e w' => (∃ i, ∃ hi : i < L.length, L.find? (over S n) = some L[i] ∧ e = .returned (.int .i64 i) ∧ Below w1.heap.size w1 w') ∨ (L.find? (over S n) = none ∧ e = .returned (.int .i64 (-1)) ∧ Below w1.heap.size w1 w')) := by
      show Calls _ _ _ _ _
      refine (pindex 26 _ (Or.inl ⟨rfl, _, _, rfl⟩) a cap L w1 (fun i => over S n (L.getD i 0)) (fun i W => Below w1.heap.size w1 W) (fun W => Below w1.heap.size w1 W) (Below.refl _ _) (fun i W hW => HI.out W (bel_trans hM1.bel hW hB) (hM1.ty.trans (Ty.ofBelow hW))) ?_ hl).mono ?_
      · intro i hi W hW
        have e1 : L.getD i 0 = L[i] := by simp [hi]
        have hM := hM1.later hW hB
        refine (pover B N c (w.heap.size + 1) w.heap.size S n L[i] W ⟨hM.row, hBc, H0.out⟩ hn (by rw [hM.b2.cell]; rfl) (by rw [hM.b1.cell]; rfl)).mono ?_
        rintro e w' ⟨g1, g2⟩
        have g3 := bel_trans hW g2 (Nat.le_refl _)
        exact ⟨by rw [e1]; exact g1, fun _ => g3, fun _ => g3⟩
      · rintro e w' (⟨i, hi, hp, hb, rfl, hK⟩ | ⟨hp, rfl, hJ⟩)
        · refine Or.inl ⟨i, hi, find_at hi ?_ fun j hj hji => ?_, rfl, hK⟩
          · have e1 : L.getD i 0 = L[i] := by simp [hi]
            rw [← e1]; exact hp
          · have e1 : L.getD j 0 = L[j] := by simp [hj]
            rw [← e1]; exact hb j hji
        · refine Or.inr ⟨find_end fun j hj => ?_, rfl, hJ⟩
          have e1 : L.getD j 0 = L[j] := by simp [hj]
          rw [← e1]; exact hp j hj
    go_wp2_with fail
    refine HX.out.mono ?_
    rintro e w2 (⟨i, hi, hf, rfl, hb2⟩ | ⟨hf, rfl, hb2⟩)
    · have hM2 := hM1.later hb2 hB
      clear hM1 hb2 HX
      obtain ⟨e1, e2, e3⟩ := try_fail hok hf
      obtain ⟨b, off, rfl, hc⟩ := HI.out w2 hM2.bel hM2.ty i hi
      obtain ⟨g, hgg⟩ : ∃ g, g = L[i] := ⟨_, rfl⟩
      have hgr := hg L[i] (List.getElem_mem hi)
      rw [← hgg] at e1 e2 hc hgr
      obtain ⟨k, rfl⟩ := Int.eq_ofNat_of_zero_le hgr.1
      have hk : k < 64 := by omega
      have HE : Hid (tryC S L n = failC S k ∧ tryN S L n = k ∧ tryE S L n = 22) := ⟨e1, e2, e3⟩
      have hfb := H0.out.f k
      have hN1 := hM2.row.set (k * 4 + 2) (.int .i64 (S.f k + 1))
      rw [cc_f _ _ _ hk] at hN1
      have HN : Hid (RowAt (w2.setCell ⟨c, k * 4 + 2, none⟩ (.int .i64 (S.f k + 1))) c 49 (cc (failC S k))) := hN1
      have hc2 : w2.cell? ⟨c, k * 4 + 2, none⟩ = some (.int .i64 (S.f k)) := by rw [hM2.row.cell]; exact cc_at _ k 2 hk (by omega)
      have hMt := hM2.turn HN.out (But.setCell c (k * 4 + 2) w2 (.int .i64 (S.f k + 1))) hBc
      have HMt : Hid (Mid B w (w2.setCell ⟨c, k * 4 + 2, none⟩ (.int .i64 (S.f k + 1))) c (failC S k) n w.heap.size (w.heap.size + 1)) := hMt
      have hc3 : (w2.setCell ⟨c, k * 4 + 2, none⟩ (.int .i64 (S.f k + 1))).cell? ⟨b, off + i, none⟩ = some (.int .i64 k) := by
        obtain ⟨b', off', e', h'⟩ := HI.out _ hMt.bel hMt.ty i hi
        have e2 := Option.some.inj e'
        injection e2 with e3 e4
        subst e3
        subst e4
        rw [← hgg] at h'
        exact h'
      have hf2 := hM2.row.frozen (k * 4 + 2)
      have kc : w2.cell? ⟨w.heap.size, 0, none⟩ = some (.pointer (some ⟨c, 0, none⟩)) := by rw [hM2.b1.cell]; rfl
      have hil : decide ((i : Int) < (L.length : Int)) = true := by simp; omega
      have hi0 : decide ((0 : Int) ≤ (i : Int)) = true := by simp
      obtain ⟨f, hfe⟩ : ∃ f, f = S.f k := ⟨_, rfl⟩
      rw [← hfe] at hfb hc2 hc3 HMt
      have ew : IntKind.i64.wrap (f + 1) = f + 1 := by rw [IntKind.wrap_i64]; omega
      clear e1 e2 e3 hgg hgr hf hN1 hM2 hfe hok hg hd HN hMt HI
      go_wp2_with fail
      go_region
      go_wp2_with fail
      go_ret2
      obtain ⟨e1, e2, e3⟩ := HE.out
      have hoo := HOK.out
      rw [e1] at hoo
      rw [e1, e2, e3]
      have hMf := HMt.out
      exact ⟨rfl, ⟨hMf.row.drewN 1, hBc, hoo⟩, below_drawn hMf.bel 1, hMf.ty.drewN 1, hMf.ap.drewN 1⟩
    · have hM2 := hM1.later hb2 hB
      clear hM1 hb2 HX
      obtain ⟨e1, e2, e3⟩ := try_ok hok hf
      have HE : Hid (tryC S L n = growC S L n ∧ tryN S L n = -1 ∧ tryE S L n = 0) := ⟨e1, e2, e3⟩
      clear e1 e2 e3 hok hf
      have hi0 : decide ((0 : Int) ≤ (-1 : Int)) = false := rfl
      have HGR : Hid (∀ x ∈ L, 0 ≤ x ∧ x < 64) := hg
      have HD : Hid (L.Nodup) := hd
      have HMM : Hid (Mid B w w2 c (growC S (L.take 0) n) n w.heap.size (w.heap.size + 1)) := by
        show Mid _ _ _ _ _ _ _ _
        rw [List.take_zero, grow_nil]; exact hM2
      clear hg hd hM2
      go_wp2_with fail
      go_loopw [41] (fun s41 wr => ∃ i : Nat, i ≤ L.length ∧ s41 = .int .i64 i ∧ Mid B w wr c (growC S (L.take i) n) n w.heap.size (w.heap.size + 1)) (fun s41 _ => L.length - (intOf s41).toNat)
      case atStart => exact ⟨0, by omega, rfl, HMM.out⟩
      case round =>
        obtain ⟨i, hi, rfl, hM⟩ := hrel
        clear HMM
        by_cases hlt : i < L.length
        · have hil : decide ((i : Int) < (L.length : Int)) = true := by simp; omega
          obtain ⟨b, off, rfl, hc⟩ := HI.out wr hM.bel hM.ty i hlt
          obtain ⟨t1, t2, t3⟩ := grow_take (S := S) (n := n) HD.out hlt
          obtain ⟨g, hgg⟩ : ∃ g, g = L[i] := ⟨_, rfl⟩
          have hgr := HGR.out L[i] (List.getElem_mem hlt)
          rw [← hgg] at hc hgr t1 t2 t3
          obtain ⟨k, rfl⟩ := Int.eq_ofNat_of_zero_le hgr.1
          have hk : k < 64 := by omega
          have hub := H0.out.u k
          have kc : wr.cell? ⟨w.heap.size, 0, none⟩ = some (.pointer (some ⟨c, 0, none⟩)) := by rw [hM.b1.cell]; rfl
          have kn : wr.cell? ⟨w.heap.size + 1, 0, none⟩ = some (.int .i64 n) := by rw [hM.b2.cell]; rfl
          have HP : Hid (∀ d, Calls Try.prog 28 #[.pointer (some ⟨c, k * 4, none⟩), .int .i64 n] (wr.drewN d) fun e w' => e = .returned (.tuple #[]) ∧ Mid B w w' c (growC S (L.take (i + 1)) n) n w.heap.size (w.heap.size + 1)) := fun d => by
            have hMd : Mid B w (wr.drewN d) c (growC S (L.take i) n) n w.heap.size (w.heap.size + 1) := ⟨hM.row.drewN d, hM.b1.drewN d, hM.b2.drewN d, below_drawn hM.bel d, hM.ty.drewN d, hM.ap.drewN d⟩
            refine (pgrow c k (growC S (L.take i) n) n _ hMd.row hk hn (by rw [t2]; exact hub)).mono ?_
            rintro e w' ⟨g1, g2, g3⟩
            refine ⟨g1, hMd.turn ?_ g3 hBc⟩
            rw [t1]
            rw [t2, t3] at g2
            exact g2
          clear t1 t2 t3 hgg hgr hub hM HI HGR HD
          go_wp2_with fail
          go_region_with (go_at_call 28; refine (HP.out 1).mono ?_; rintro e w5 ⟨rfl, hM5⟩)
          all_goals
            go_wp2_with fail
            exact ⟨⟨i + 1, by omega, by go_num, hM5⟩, by simp [intOf]; omega⟩
        · obtain rfl : i = L.length := by omega
          rw [List.take_of_length_le (Nat.le_refl _)] at hM
          have hil : decide ((L.length : Int) < (L.length : Int)) = false := by simp
          clear HI HGR HD
          go_wp2_with fail
          go_ret2
          obtain ⟨e1, e2, e3⟩ := HE.out
          have hoo := HOK.out
          rw [e1] at hoo
          rw [e1, e2, e3]
          exact ⟨rfl, ⟨hM.row, hBc, hoo⟩, hM.bel, hM.ty, hM.ap⟩
end Go.Proofs.Ytpageadhmgoddaa
