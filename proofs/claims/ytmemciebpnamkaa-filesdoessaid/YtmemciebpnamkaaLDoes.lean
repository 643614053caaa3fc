/-
  The law FilesDoes, walked: for every input it answers true.
-/
import Derived.Test.YtmemciebpnamkaaR3
namespace Go.Proofs.Ytmemciebpnamkaa
open Go.RowKit

/-- The program's store and the document's, side by side. -/
structure Both (w0 w : World) (s p m B r : Nat) (S : List Nat) (L L' : List Ent) : Prop where
  o : Own w0 w s p m S L
  f : ∃ vs vl, RefIs w B r S L' vs vl
  lo : w0.heap.size ≤ B
  bs : B ≤ w.heap.size
  l1 : s < B
  l2 : p < B
  l3 : m < B
section
variable {w0 w w' : World} {s p m B r : Nat} {S : List Nat} {L L' : List Ent}
theorem Both.drewN (h : Both w0 w s p m B r S L L') (n : Nat) : Both w0 (w.drewN n) s p m B r S L L' := by
  obtain ⟨vs, vl, hf⟩ := h.f
  exact ⟨h.o.drewN n, ⟨vs, vl, hf.drewN n⟩, h.lo, h.bs, h.l1, h.l2, h.l3⟩
theorem Both.grow (h : Both w0 w s p m B r S L L') (hb : Below w.heap.size w w') : Both w0 w' s p m B r S L L' := by
  obtain ⟨vs, vl, hf⟩ := h.f
  exact ⟨h.o.grow hb, ⟨vs, vl, hf.below hb⟩, h.lo, Nat.le_trans h.bs hb.size, h.l1, h.l2, h.l3⟩
theorem b_new (a : Option Addr) (cap : Nat) (l : List Int) (hl : l.length ≤ 1000000) (hc : IntsAt w a l) (h : Own w0 w s p m (sizesOf l) []) :
    Calls Try.prog 9 #[.slice a l.length cap] w fun e w' => ∃ r, e = .returned (.pointer (some ⟨r, 0, none⟩)) ∧ Both w0 w' s p m w.heap.size r (sizesOf l) [] [] := by
  refine (rnew a cap l w hc hl).mono ?_
  rintro e w' ⟨r, vs, vl, h1, h2, h3⟩
  obtain ⟨g1, g2, g3⟩ := h.st.lt
  exact ⟨r, h1, h.grow h3, ⟨vs, vl, h2⟩, h.bel.size, h3.size, g1, g2, g3⟩
theorem b_write (f i : Int) (T : List UInt8) (h : Both w0 w s p m B r S L L') (hL : L.length < 1000000) :
    Calls Try.prog 13 #[.pointer (some ⟨s, 0, none⟩), .agg #[.int .i64 f, .int .i64 i], .string ⟨T.toArray⟩] w fun e w' => e = .returned (.int .i64 (writeE S f i T)) ∧ Both w0 w' s p m B r S (writeL S L f i T) L' := by
  refine (pwrite s p m S L f i T w h.o.st hL).mono ?_
  rintro e w' ⟨h1, h2, h3⟩
  obtain ⟨vs, vl, hf⟩ := h.f
  have := h.l1
  have := h.l3
  exact ⟨h1, h.o.turn h2 h3, ⟨vs, vl, hf.kept fun k hk hlt => h3.block k hlt (by rintro (rfl | rfl) <;> omega)⟩, h.lo, Nat.le_trans h.bs h3.size, h.l1, h.l2, h.l3⟩
theorem b_rwrite (f i : Int) (T : List UInt8) (h : Both w0 w s p m B r S L L') (hL : L'.length < 1000000) :
    Calls Try.prog 14 #[.pointer (some ⟨r, 0, none⟩), .agg #[.int .i64 f, .int .i64 i], .string ⟨T.toArray⟩] w fun e w' => e = .returned (.int .i64 (writeE S f i T)) ∧ Both w0 w' s p m B r S L (writeL S L' f i T) := by
  obtain ⟨vs, vl, hf⟩ := h.f
  refine (rwrite B r S L' vs vl f i T w hf hL h.bs).mono ?_
  rintro e w' ⟨h1, ⟨vl', h2⟩, h3⟩
  have l1 := h.l1
  have l2 := h.l2
  have l3 := h.l3
  have lo := h.lo
  exact ⟨h1, ⟨h.o.st.turn h3 (by omega) (by omega) (by omega), h.o.bel.trans (h3.below (fun k hk => by omega) h.o.bel.size), h.o.ls, h.o.lp, h.o.lm⟩, ⟨vs, vl', h2⟩, lo, Nat.le_trans h.bs h3.size, l1, l2, l3⟩
theorem b_read (f i : Int) (h : Both w0 w s p m B r S L L') :
    Calls Try.prog 15 #[.pointer (some ⟨s, 0, none⟩), .agg #[.int .i64 f, .int .i64 i]] w fun e w' => e = .returned (.tuple #[.string (readT S L f i), .int .i64 (readE S f i)]) ∧ Both w0 w' s p m B r S L L' :=
  (pread s p m S L f i w h.o.st).mono fun _ _ ⟨a, b⟩ => ⟨a, h.grow b⟩
theorem b_rread (f i : Int) (h : Both w0 w s p m B r S L L') (hL : L'.length < 1000000) :
    Calls Try.prog 16 #[.pointer (some ⟨r, 0, none⟩), .agg #[.int .i64 f, .int .i64 i]] w fun e w' => e = .returned (.tuple #[.string (readT S L' f i), .int .i64 (readE S f i)]) ∧ Both w0 w' s p m B r S L L' := by
  obtain ⟨vs, vl, hf⟩ := h.f
  exact (rread B r S L' vs vl f i w hf hL).mono fun _ _ ⟨a, b⟩ => ⟨a, h.grow b⟩
end

set_option maxRecDepth 100000 in
set_option maxHeartbeats 2000000 in
theorem does_out (a0 : Option Addr) (cap0 n0 : Nat) (a1 : Option Addr) (cap1 n1 : Nat) (f i : Int) (w : World) (h : 100 < n0 ∨ 60 < n1) :
    Calls Try.prog 3 #[.slice a0 n0 cap0, .slice a1 n1 cap1, .agg #[.int .i64 f, .int .i64 i]] w fun e w' => e = .returned (.bool true) ∧ Below w.heap.size w w' := by
  by_cases h1 : 60 < n1
  · clear h
    go_enter Try.func3, Try.ntmps3
    go_wp2_with (go_at_call 7; refine (works_any _).mono ?_; rintro e w1 ⟨rfl, hb⟩)
    go_ret
    exact ⟨rfl, (below_alloc _ _).trans (hb.mono (by simp))⟩
  · have h2 : 100 < n0 := by omega
    clear h
    go_enter Try.func3, Try.ntmps3
    go_wp2_with (go_at_call 7; refine (works_any _).mono ?_; rintro e w1 ⟨rfl, hb⟩)
    go_ret
    exact ⟨rfl, (below_alloc _ _).trans (hb.mono (by simp))⟩

theorem boxed1 (w : World) (f i : Int) : ∃ w0, w0 = w.alloc (.cells #[.int .i64 f, .int .i64 i] 25) ∧ RowAt w0 w.heap.size 25 [.int .i64 f, .int .i64 i] ∧ Below w.heap.size w w0 ∧ w.heap.size < w0.heap.size :=
  ⟨_, rfl, RowAt.new w _ 25, below_alloc _ _, by simp⟩
theorem writeL_le (S : List Nat) (L : List Ent) (f i : Int) (T : List UInt8) : (writeL S L f i T).length ≤ L.length + 1 := by
  unfold writeL
  split <;> simp

set_option maxRecDepth 100000 in
set_option maxHeartbeats 8000000 in
theorem does_in (a0 : Option Addr) (cap0 : Nat) (l0 : List Int) (a1 : Option Addr) (cap1 : Nat) (l : List Ent) (f i : Int) (w : World) (h0 : l0.length ≤ 100) (h1 : l.length ≤ 60) (hc0 : IntsAt w a0 l0) (hc : ActsAt w a1 l) :
    Calls Try.prog 3 #[.slice a0 l0.length cap0, .slice a1 l.length cap1, .agg #[.int .i64 f, .int .i64 i]] w fun e w' => e = .returned (.bool true) ∧ Below w.heap.size w w' := by
  have d1 : decide ((100 : Int) < (l0.length : Int)) = false := by simp; omega
  have d2 : decide ((60 : Int) < (l.length : Int)) = false := by simp; omega
  go_enter Try.func3, Try.ntmps3
  go_wp2_with fail
  obtain ⟨w0, hw0, hk0, hb0, hlt0⟩ := boxed1 w f i
  rw [← hw0]
  clear hw0
  have hc0' := hc0.below hb0
  have hc' := hc.below hb0
  clear hc0 hc
  have KK : Hid (∀ wx : World, Below w0.heap.size w0 wx → wx.cell? ⟨w.heap.size, 0, none⟩ = some (.int .i64 f) ∧ wx.cell? ⟨w.heap.size, 1, none⟩ = some (.int .i64 i)) := by
    intro wx hb
    have hk := hk0.below hb hlt0
    exact ⟨by rw [hk.cell]; rfl, by rw [hk.cell]; rfl⟩
  refine (works_any _).mono ?_
  rintro e w1 ⟨rfl, hb1⟩
  go_wp2_with fail
  refine (newO (w0 := w0) a0 cap0 l0 (by omega) (hc0'.below hb1) hb1).mono ?_
  rintro e w2 ⟨s, p, m, rfl, ho⟩
  go_wp2_with fail
  refine (b_new a0 cap0 l0 (by omega) (hc0'.below ho.bel) ho).mono ?_
  rintro e w3 ⟨r, rfl, ht⟩
  clear hb1 hc0' ho
  obtain ⟨S, hS⟩ : ∃ S, S = sizesOf l0 := ⟨_, rfl⟩
  obtain ⟨B, hB⟩ : ∃ B, B = w2.heap.size := ⟨_, rfl⟩
  rw [← hS, ← hB] at ht
  clear hS hB
  have hs32 : S.length ≤ 32 := ht.o.st.le
  go_upto_region 8 with fail
  go_cut [52] (fun s52 wx => s52 = .bool false ∧ Both w0 wx s p m B r S [] [])
  case first =>
    obtain ⟨vs, vl, hf⟩ := ht.f
    obtain ⟨aS, cS, rfl⟩ := hf.lenS
    have hcr := hf.c0
    obtain ⟨k0, k1⟩ := KK.out _ ht.o.bel
    have H10 : Hid (Calls Try.prog 10 #[.pointer (some ⟨s, 0, none⟩)] w3.drew fun e w' => e = .returned (.int .i64 S.length) ∧ w' = w3.drew) := countO (ht.o.drewN 1)
    have ht1 : Hid (Both w0 w3.drew s p m B r S [] []) := ht.drewN 1
    have n1 : ((S.length : Int) != (S.length : Int)) = false := by simp
    obtain ⟨X, hX⟩ : ∃ X : ByteArray, X = ⟨(firstT f i).toArray⟩ := ⟨_, rfl⟩
    have HX : Hid ((⟨(firstT f i).toArray⟩ : ByteArray) = X) := hX.symm
    clear hX hf ht
    go_wp2
    go_region_with (first
      | (go_at_call 10; refine H10.out.mono ?_; rintro e w4 ⟨rfl, rfl⟩)
      | (go_at_call 11; refine (pfirst f i _).mono ?_; rintro e w5 ⟨rfl, hb5⟩; have ht2 := ht1.out.grow hb5; obtain ⟨k2, k3⟩ := KK.out _ ht2.o.bel; rw [HX.out])
      | (go_at_call 12; refine (rfirst f i _).mono ?_; rintro e w6 ⟨rfl, hb6⟩; have ht3 := ht2.grow hb6; rw [HX.out]))
    all_goals
      go_wp2
      go_meet
      exact ⟨rfl, ht3⟩
  case rest =>
    clear ht
    obtain ⟨rfl, ht⟩ := hcut
    go_wp2
    go_loopw [10] (fun s10 wr => ∃ (j : Nat) (L : List Ent), j ≤ l.length ∧ s10 = .int .i64 j ∧ L.length ≤ j ∧ Both w0 wr s p m B r S L L) (fun s10 _ => l.length - (intOf s10).toNat)
    case atStart => exact ⟨0, [], by omega, rfl, by simp, ht⟩
    case round =>
      clear ht
      obtain ⟨j, L, hj, rfl, hLj, ht⟩ := hrel
      by_cases hlt : j < l.length
      · obtain ⟨b, off, e, rfl, e0, e1, e2⟩ := hc'.at hlt
        obtain ⟨F, hF⟩ : ∃ F, F = e.f := ⟨_, rfl⟩
        obtain ⟨I, hI⟩ : ∃ F, F = e.i := ⟨_, rfl⟩
        obtain ⟨T, hT⟩ : ∃ F, F = e.t := ⟨_, rfl⟩
        obtain ⟨t, htt⟩ : ∃ t : ByteArray, t = ⟨T.toArray⟩ := ⟨_, rfl⟩
        rw [← hF] at e0
        rw [← hI] at e1
        rw [← hT, ← htt] at e2
        have HT : Hid (t = ⟨T.toArray⟩) := htt
        have CC : Hid (∀ wx : World, Below w0.heap.size w0 wx → wx.cell? ⟨b, off + j * 3, none⟩ = some (.int .i64 F) ∧ wx.cell? ⟨b, off + j * 3 + 1, none⟩ = some (.int .i64 I) ∧ wx.cell? ⟨b, off + j * 3 + 2, none⟩ = some (.string t)) :=
          fun wx hb => ⟨cell_later hb e0, cell_later hb e1, cell_later hb e2⟩
        clear hF hI hT htt e0 e1 e2 hc'
        obtain ⟨E, hE⟩ : ∃ E, E = writeE S F I T := ⟨_, rfl⟩
        obtain ⟨L2, hL2⟩ : ∃ L2, L2 = writeL S L F I T := ⟨_, rfl⟩
        have hl2 : L2.length ≤ j + 1 := by have := writeL_le S L F I T; rw [hL2]; omega
        have H13 : Hid (Calls Try.prog 13 #[.pointer (some ⟨s, 0, none⟩), .agg #[.int .i64 F, .int .i64 I], .string t] wr.drew fun e w' => e = .returned (.int .i64 E) ∧ Both w0 w' s p m B r S L2 L) := by
          rw [HT.out, hE, hL2]
          exact b_write F I T (ht.drewN 1) (by omega)
        have H14 : Hid (∀ wx, Both w0 wx s p m B r S L2 L → Calls Try.prog 14 #[.pointer (some ⟨r, 0, none⟩), .agg #[.int .i64 F, .int .i64 I], .string t] wx.drew fun e w' => e = .returned (.int .i64 E) ∧ Both w0 w' s p m B r S L2 L2) := by
          intro wx hx
          have := b_rwrite F I T (hx.drewN 1) (by omega)
          rw [← hE, ← hL2, ← HT.out] at this
          exact this
        clear hE hL2
        go_upto_region 13 with fail
        go_cut [11] (fun s11 wx => s11 = .int .i64 E ∧ Both w0 wx s p m B r S L2 L)
        case first =>
          obtain ⟨c0, c1, c2⟩ := CC.out _ ht.o.bel
          go_wp2
          go_region_with (go_at_call 13; refine H13.out.mono ?_; rintro e w4 ⟨rfl, h4⟩)
          all_goals
            go_wp2
            go_meet
            exact ⟨rfl, h4⟩
        case rest =>
          clear ht H13
          obtain ⟨rfl, ht⟩ := hcut
          have H14' := H14.out _ ht
          have H14a : Hid (Calls Try.prog 14 #[.pointer (some ⟨r, 0, none⟩), .agg #[.int .i64 F, .int .i64 I], .string t] wc.drew fun e w' => e = .returned (.int .i64 E) ∧ Both w0 w' s p m B r S L2 L2) := H14'
          clear H14' H14
          go_upto_region 14 with fail
          go_cut [12] (fun s12 wx => s12 = .int .i64 E ∧ Both w0 wx s p m B r S L2 L2)
          case first =>
            obtain ⟨c0, c1, c2⟩ := CC.out _ ht.o.bel
            go_wp2
            go_region_with (go_at_call 14; refine H14a.out.mono ?_; rintro e w4 ⟨rfl, h4⟩)
            all_goals
              go_wp2
              go_meet
              exact ⟨rfl, h4⟩
          case rest =>
            clear ht H14a
            obtain ⟨rfl, h4⟩ := hcut
            obtain ⟨tA, hA⟩ : ∃ t, t = readT S L2 F I := ⟨_, rfl⟩
            obtain ⟨EA, hEA⟩ : ∃ t, t = readE S F I := ⟨_, rfl⟩
            obtain ⟨tK, hK⟩ : ∃ t, t = readT S L2 f i := ⟨_, rfl⟩
            obtain ⟨EK, hEK⟩ : ∃ t, t = readE S f i := ⟨_, rfl⟩
            have J1 : Hid (readT S L2 F I = tA) := hA.symm
            have J2 : Hid (readE S F I = EA) := hEA.symm
            have J3 : Hid (readT S L2 f i = tK) := hK.symm
            have J4 : Hid (readE S f i = EK) := hEK.symm
            have q1 : (E != E) = false := by simp
            have q2 : (EA != EA) = false := by simp
            have q3 : (EK != EK) = false := by simp
            have q4 : ((L2.length : Int) != (L2.length : Int)) = false := by simp
            have hl3 : L2.length < 1000000 := by omega
            clear hA hEA hK hEK
            obtain ⟨c0, c1, c2⟩ := CC.out _ h4.o.bel
            go_wp2_with fail
            refine (b_read F I h4).mono ?_
            rintro e w5 ⟨rfl, h5⟩
            rw [J1.out, J2.out]
            clear c0 c1 c2 h4
            obtain ⟨c0, c1, c2⟩ := CC.out _ h5.o.bel
            go_wp2_with fail
            refine (b_rread F I h5 hl3).mono ?_
            rintro e w6 ⟨rfl, h6⟩
            rw [J1.out, J2.out]
            clear c0 c1 c2 h5
            obtain ⟨k0, k1⟩ := KK.out _ h6.o.bel
            go_wp2_with fail
            refine (b_read f i h6).mono ?_
            rintro e w7 ⟨rfl, h7⟩
            rw [J3.out, J4.out]
            clear k0 k1 h6
            obtain ⟨k0, k1⟩ := KK.out _ h7.o.bel
            go_wp2_with fail
            refine (b_rread f i h7 hl3).mono ?_
            rintro e w8 ⟨rfl, h8⟩
            rw [J3.out, J4.out]
            clear k0 k1 h7
            obtain ⟨vs, vl, hf⟩ := h8.f
            obtain ⟨aL, cL, rfl⟩ := hf.lenL
            have hcl := hf.c1
            have H17 : Hid (∀ n, Calls Try.prog 17 #[.pointer (some ⟨s, 0, none⟩)] (w8.drewN n) fun e w' => e = .returned (.int .i64 L2.length) ∧ w' = w8.drewN n) := fun n => writesO (h8.o.drewN n)
            clear hf
            go_wp2
            go_quiet ((go_at_call 17; exact (H17.out _).mono fun e w' h => ⟨h.1, _, h.2⟩))
            go_wp2
            exact ⟨⟨j + 1, L2, by omega, by go_num, by omega, h8.drewN _⟩, by simp [intOf]; omega⟩
      · have hfin : Below w.heap.size w wr := hb0.trans (ht.o.bel.mono (by omega))
        have HFIN : Hid (Below w.heap.size w wr) := hfin
        obtain ⟨k0, k1⟩ := KK.out _ ht.o.bel
        obtain ⟨vs, vl, hf⟩ := ht.f
        have hst := ht.o
        clear hfin hc' ht KK
        by_cases z0 : f < 0
        · have hd : decide (0 ≤ f) = false := by simp; omega
          have HS : Hid (sizeK S f = 0) := sizeK_low z0
          clear z0
          go_wp2
          go_quiet (fail)
          go_wp2_with fail
          refine (sizeO f (hst.drewN _)).mono ?_
          rintro e w6 ⟨rfl, rfl⟩
          rw [HS.out]
          go_wp2_with fail
          go_ret
          exact ⟨rfl, below_drawn HFIN.out _⟩
        · have hd0 : decide (0 ≤ f) = true := by simp; omega
          obtain ⟨k, rfl⟩ := Int.eq_ofNat_of_zero_le (by omega : 0 ≤ f)
          clear z0
          by_cases z1 : k < S.length
          · have hd1 : decide ((k : Int) < (S.length : Int)) = true := by simp; omega
            obtain ⟨g, cap, rfl, hg⟩ := hf.at z1
            have hcr := hf.c0
            obtain ⟨x, hx⟩ : ∃ x : Int, x = (S.getD k 0 : Nat) := ⟨_, rfl⟩
            rw [← hx] at hg
            have HS : Hid (sizeK S k = x) := by show _ = _; rw [sizeK_nat z1, hx]
            have hxx : (x == x) = true := by simp
            clear hf hx
            go_wp2
            go_quiet (fail)
            go_wp2
            go_quiet (fail)
            go_wp2_with fail
            refine (sizeO k (hst.drewN _)).mono ?_
            rintro e w6 ⟨rfl, rfl⟩
            rw [HS.out]
            go_wp2_with fail
            go_ret
            exact ⟨rfl, below_drawn HFIN.out _⟩
          · have hd1 : decide ((k : Int) < (S.length : Int)) = false := by simp; omega
            have HS : Hid (sizeK S k = 0) := sizeK_high (by omega)
            obtain ⟨aS, cS, rfl⟩ := hf.lenS
            have hcr := hf.c0
            clear hf
            go_wp2
            go_quiet (fail)
            go_wp2_with fail
            refine (sizeO k (hst.drewN _)).mono ?_
            rintro e w6 ⟨rfl, rfl⟩
            rw [HS.out]
            go_wp2_with fail
            go_ret
            exact ⟨rfl, below_drawn HFIN.out _⟩

theorem does_walk (a0 : Option Addr) (cap0 : Nat) (l0 : List Int) (a1 : Option Addr) (cap1 : Nat) (l : List Ent) (f i : Int) (w : World) (hc0 : IntsAt w a0 l0) (hc : ActsAt w a1 l) :
    Calls Try.prog 3 #[.slice a0 l0.length cap0, .slice a1 l.length cap1, .agg #[.int .i64 f, .int .i64 i]] w fun e w' => e = .returned (.bool true) ∧ Below w.heap.size w w' := by
  by_cases h : 100 < l0.length ∨ 60 < l.length
  · exact does_out a0 cap0 _ a1 cap1 _ f i w h
  · exact does_in a0 cap0 l0 a1 cap1 l f i w (by omega) (by omega) hc0 hc
end Go.Proofs.Ytmemciebpnamkaa
