/-
  The law FilesLast, walked: for every input it answers true.
-/
import Derived.Test.YtmemciebpnamkaaEq
namespace Go.Proofs.Ytmemciebpnamkaa
open Go.RowKit

theorem read_same {S : List Nat} {L : List Ent} {f i : Int} {T : List UInt8} (h : hasK S f i = true) (hT : T.length = 16) : readT S (writeL S L f i T) f i = ⟨T.toArray⟩ := by
  rw [writeL_ok h hT]
  exact readT_some h (lookL_same L f i T)
theorem read_other {S : List Nat} {L : List Ent} {f i g j : Int} {T : List UInt8} (h : hasK S f i = true) (hT : T.length = 16) (hne : ¬ (f = g ∧ i = j)) : readT S (writeL S L f i T) g j = readT S L g j := by
  rw [writeL_ok h hT]
  unfold readT
  rw [lookL_other L T hne]

set_option maxHeartbeats 2000000 in
theorem last_out (a0 : Option Addr) (cap0 n0 : Nat) (a1 : Option Addr) (cap1 n1 : Nat) (f i g j : Int) (T : List UInt8) (w : World) (h : 100 < n0 ∨ 60 < n1 ∨ T.length ≠ 16) :
    Calls Try.prog 4 #[.slice a0 n0 cap0, .slice a1 n1 cap1, .agg #[.int .i64 f, .int .i64 i], .agg #[.int .i64 g, .int .i64 j], .string ⟨T.toArray⟩] w fun e w' => e = .returned (.bool true) ∧ Below w.heap.size w w' := by
  have hsz := text_size T
  obtain ⟨t, ht⟩ : ∃ t : ByteArray, t = ⟨T.toArray⟩ := ⟨_, rfl⟩
  rw [← ht] at hsz ⊢
  clear ht
  obtain ⟨q, hq⟩ : ∃ q, q = T.length := ⟨_, rfl⟩
  rw [← hq] at h hsz
  clear hq
  have hbb : ∀ w1 : World, Below ((w.alloc (.cells #[.int .i64 f, .int .i64 i] 25)).alloc (.cells #[.int .i64 g, .int .i64 j] 25)).heap.size ((w.alloc (.cells #[.int .i64 f, .int .i64 i] 25)).alloc (.cells #[.int .i64 g, .int .i64 j] 25)) w1 → Below w.heap.size w w1 := fun w1 hb => (below_alloc _ _).trans (((below_alloc _ _).mono (by simp)).trans (hb.mono (by simp; omega)))
  have HBB := (show Hid _ from hbb)
  clear hbb
  by_cases h1 : 60 < n1
  · clear h
    go_enter Try.func4, Try.ntmps4
    go_wp2_with (go_at_call 7; refine (works_any _).mono ?_; rintro e w1 ⟨rfl, hb⟩)
    go_ret
    exact ⟨rfl, HBB.out _ hb⟩
  · by_cases h2 : 100 < n0
    · clear h
      go_enter Try.func4, Try.ntmps4
      go_wp2_with (go_at_call 7; refine (works_any _).mono ?_; rintro e w1 ⟨rfl, hb⟩)
      go_ret
      exact ⟨rfl, HBB.out _ hb⟩
    · have h3 : ((q : Int) != 16) = true := by simp; omega
      clear h
      go_enter Try.func4, Try.ntmps4
      go_wp2_with (go_at_call 7; refine (works_any _).mono ?_; rintro e w1 ⟨rfl, hb⟩)
      go_ret
      exact ⟨rfl, HBB.out _ hb⟩

/-- The boxes of two keys. -/
theorem boxed2 (w : World) (f i g j : Int) : ∃ w0, w0 = (w.alloc (.cells #[.int .i64 f, .int .i64 i] 25)).alloc (.cells #[.int .i64 g, .int .i64 j] 25) ∧ RowAt w0 w.heap.size 25 [.int .i64 f, .int .i64 i] ∧ RowAt w0 (w.heap.size + 1) 25 [.int .i64 g, .int .i64 j] ∧ Below w.heap.size w w0 ∧ w.heap.size + 1 < w0.heap.size := by
  refine ⟨_, rfl, (RowAt.new w _ 25).alloc _, ?_, (below_alloc _ _).trans ((below_alloc _ _).mono (by simp)), by simp⟩
  have := RowAt.new (w.alloc (.cells #[.int .i64 f, .int .i64 i] 25)) #[.int .i64 g, .int .i64 j] 25
  simpa using this

set_option maxRecDepth 100000 in
set_option maxHeartbeats 8000000 in
theorem last_in (a0 : Option Addr) (cap0 : Nat) (l0 : List Int) (a1 : Option Addr) (cap1 : Nat) (l : List Ent) (f i g j : Int) (T : List UInt8) (w : World) (h0 : l0.length ≤ 100) (h1 : l.length ≤ 60) (hT : T.length = 16) (hc0 : IntsAt w a0 l0) (hc : ActsAt w a1 l) :
    Calls Try.prog 4 #[.slice a0 l0.length cap0, .slice a1 l.length cap1, .agg #[.int .i64 f, .int .i64 i], .agg #[.int .i64 g, .int .i64 j], .string ⟨T.toArray⟩] w fun e w' => e = .returned (.bool true) ∧ Below w.heap.size w w' := by
  have d1 : decide ((100 : Int) < (l0.length : Int)) = false := by simp; omega
  have d2 : decide ((60 : Int) < (l.length : Int)) = false := by simp; omega
  have hsz := text_size T
  rw [hT] at hsz
  obtain ⟨t, ht⟩ : ∃ t : ByteArray, t = ⟨T.toArray⟩ := ⟨_, rfl⟩
  rw [← ht] at hsz ⊢
  have HT : Hid (t = ⟨T.toArray⟩) := ht
  clear ht
  go_enter Try.func4, Try.ntmps4
  go_wp2_with fail
  obtain ⟨w0, hw0, hk0, hk1, hb0, hlt0⟩ := boxed2 w f i g j
  rw [← hw0]
  clear hw0
  have hc0' := hc0.below hb0
  have hc' := hc.below hb0
  clear hc0 hc
  refine (works_any _).mono ?_
  rintro e w1 ⟨rfl, hb1⟩
  go_wp2_with fail
  refine (newO (w0 := w0) a0 cap0 l0 (by omega) (hc0'.below hb1) hb1).mono ?_
  rintro e w2 ⟨s, p, m, rfl, ho⟩
  clear hb1 hc0'
  obtain ⟨S, hS⟩ : ∃ S, S = sizesOf l0 := ⟨_, rfl⟩
  rw [← hS] at ho
  clear hS
  go_wp2
  go_loopw [13] (fun s13 wr => ∃ (k : Nat) (L : List Ent), k ≤ l.length ∧ s13 = .int .i64 k ∧ L.length ≤ k ∧ Own w0 wr s p m S L) (fun s13 _ => l.length - (intOf s13).toNat)
  case atStart => exact ⟨0, [], by omega, rfl, by simp, ho⟩
  case round =>
    clear ho
    obtain ⟨k, L, hk, rfl, hLk, ho⟩ := hrel
    by_cases hlt : k < l.length
    · have hcr := hc'.below ho.bel
      obtain ⟨b, off, e, rfl, e0, e1, e2⟩ := hcr.at hlt
      obtain ⟨F, hF⟩ : ∃ F, F = e.f := ⟨_, rfl⟩
      obtain ⟨I, hI⟩ : ∃ F, F = e.i := ⟨_, rfl⟩
      obtain ⟨U, hU⟩ : ∃ F, F = e.t := ⟨_, rfl⟩
      obtain ⟨u, hu⟩ : ∃ t : ByteArray, t = ⟨U.toArray⟩ := ⟨_, rfl⟩
      rw [← hF] at e0
      rw [← hI] at e1
      rw [← hU, ← hu] at e2
      have H13 : Hid (Calls Try.prog 13 #[.pointer (some ⟨s, 0, none⟩), .agg #[.int .i64 F, .int .i64 I], .string u] wr.drew fun e w' => e = .returned (.int .i64 (writeE S F I U)) ∧ Own w0 w' s p m S (writeL S L F I U)) := by
        rw [hu]
        exact writeO F I U (ho.drewN 1) (by omega)
      have HLN : Hid ((writeL S L F I U).length ≤ L.length + 1) := by
        show _ ≤ _
        unfold writeL
        split <;> simp
      clear hF hI hU hu hcr
      go_upto_block 1 with fail
      go_cut [59] (fun _ wx => Own w0 wx s p m S (writeL S L F I U))
      case first =>
        go_wp2
        go_region_with (go_at_call 13; refine H13.out.mono ?_; rintro e w4 ⟨rfl, h4⟩)
        all_goals
          go_wp2
          go_meet
          exact h4
      case rest =>
        clear ho H13 e0 e1 e2
        have ho := hcut
        clear hcut
        go_wp2
        exact ⟨⟨k + 1, writeL S L F I U, by omega, by go_num, by have := HLN.out; omega, ho⟩, by simp [intOf]; omega⟩
    · clear hc'
      have hLl : L.length < 1000000 := by omega
      have kk : ∀ w', Below w0.heap.size w0 w' → w'.cell? ⟨w.heap.size, 0, none⟩ = some (.int .i64 f) ∧ w'.cell? ⟨w.heap.size, 1, none⟩ = some (.int .i64 i) ∧ w'.cell? ⟨w.heap.size + 1, 0, none⟩ = some (.int .i64 g) ∧ w'.cell? ⟨w.heap.size + 1, 1, none⟩ = some (.int .i64 j) := fun w' hb => by
        have r1 := hk0.below hb (by omega)
        have r2 := hk1.below hb hlt0
        exact ⟨by rw [r1.cell]; rfl, by rw [r1.cell]; rfl, by rw [r2.cell]; rfl, by rw [r2.cell]; rfl⟩
      have KK : Hid (∀ w', Below w0.heap.size w0 w' → w'.cell? ⟨w.heap.size, 0, none⟩ = some (.int .i64 f) ∧ w'.cell? ⟨w.heap.size, 1, none⟩ = some (.int .i64 i) ∧ w'.cell? ⟨w.heap.size + 1, 0, none⟩ = some (.int .i64 g) ∧ w'.cell? ⟨w.heap.size + 1, 1, none⟩ = some (.int .i64 j)) := kk
      clear kk
      obtain ⟨k0, k1, k2, k3⟩ := KK.out _ ho.bel
      obtain ⟨L2, hL2⟩ : ∃ L2, L2 = writeL S L f i T := ⟨_, rfl⟩
      obtain ⟨was, hwas⟩ : ∃ x, x = readT S L g j := ⟨_, rfl⟩
      obtain ⟨eo, heo⟩ : ∃ x, x = readE S g j := ⟨_, rfl⟩
      obtain ⟨ek, hek⟩ : ∃ x, x = readE S f i := ⟨_, rfl⟩
      obtain ⟨tk, htk⟩ : ∃ x, x = readT S L f i := ⟨_, rfl⟩
      obtain ⟨gw, hgw⟩ : ∃ x, x = writeE S f i T := ⟨_, rfl⟩
      obtain ⟨ta, hta⟩ : ∃ x, x = readT S L2 f i := ⟨_, rfl⟩
      obtain ⟨tb, htb⟩ : ∃ x, x = readT S L2 g j := ⟨_, rfl⟩
      have J1 : Hid (readT S L g j = was) := hwas.symm
      have J2 : Hid (readE S g j = eo) := heo.symm
      have J3 : Hid (readE S f i = ek) := hek.symm
      have J4 : Hid (readT S L f i = tk) := htk.symm
      have J5 : Hid (writeE S f i T = gw) := hgw.symm
      have J6 : Hid (readT S L2 f i = ta) := hta.symm
      have J7 : Hid (readT S L2 g j = tb) := htb.symm
      have J8 : Hid (writeL S L f i T = L2) := hL2.symm
      have facts : (ek = 2 ∧ gw = 2 ∧ was = tb) ∨ (ek = 0 ∧ gw = 0 ∧ ta = t ∧ ((f == g && i == j) = true ∨ ((f == g && i == j) = false ∧ tb = was))) := by
        cases hh : hasK S f i with
        | false =>
          refine Or.inl ⟨by rw [hek]; exact readE_no hh, by rw [hgw]; exact writeE_no hh, ?_⟩
          rw [hwas, htb, hL2, writeL_no hh]
        | true =>
          refine Or.inr ⟨by rw [hek]; exact readE_ok hh, by rw [hgw]; exact writeE_ok hh hT, by rw [hta, hL2, read_same hh hT, HT.out], ?_⟩
          cases hq : (f == g && i == j) with
          | true => exact Or.inl rfl
          | false =>
            refine Or.inr ⟨rfl, ?_⟩
            rw [htb, hL2, hwas]
            exact read_other hh hT (fun hx => by simp [hx.1, hx.2] at hq)
      have FACTS : Hid ((ek = 2 ∧ gw = 2 ∧ was = tb) ∨ (ek = 0 ∧ gw = 0 ∧ ta = t ∧ ((f == g && i == j) = true ∨ ((f == g && i == j) = false ∧ tb = was)))) := facts
      have H13 : Hid (∀ w', Own w0 w' s p m S L → Calls Try.prog 13 #[.pointer (some ⟨s, 0, none⟩), .agg #[.int .i64 f, .int .i64 i], .string t] w' fun e w'' => e = .returned (.int .i64 gw) ∧ Own w0 w'' s p m S L2) := by
        intro w' hw'
        rw [HT.out, hgw, hL2]
        exact writeO f i T hw' hLl
      clear hwas heo hek htk hgw hta htb hL2 facts hsz hLl hLk
      go_wp2_with fail
      refine (readO g j ho).mono ?_
      rintro e w3 ⟨rfl, -, h3⟩
      rw [J1.out, J2.out]
      clear k0 k1 k2 k3 ho
      obtain ⟨k0, k1, k2, k3⟩ := KK.out _ h3.bel
      go_wp2_with fail
      refine (readO f i h3).mono ?_
      rintro e w4 ⟨rfl, -, h4⟩
      rw [J4.out, J3.out]
      clear k0 k1 k2 k3 h3
      obtain ⟨k0, k1, k2, k3⟩ := KK.out _ h4.bel
      go_wp2_with fail
      refine (H13.out _ h4).mono ?_
      rintro e w5 ⟨rfl, h5⟩
      clear k0 k1 k2 k3 h4
      obtain ⟨k0, k1, k2, k3⟩ := KK.out _ h5.bel
      go_wp2_with fail
      refine (readO f i h5).mono ?_
      rintro e w6 ⟨rfl, -, h6⟩
      rw [J6.out, J3.out]
      clear k0 k1 k2 k3 h5
      obtain ⟨k0, k1, k2, k3⟩ := KK.out _ h6.bel
      go_wp2_with fail
      refine (readO g j h6).mono ?_
      rintro e w7 ⟨rfl, -, h7⟩
      rw [J7.out, J2.out]
      clear k0 k1 k2 k3 h6
      obtain ⟨k0, k1, k2, k3⟩ := KK.out _ h7.bel
      have hfin : Below w.heap.size w w7 := hb0.trans (h7.bel.mono (by omega))
      have eo1 : (eo == eo) = true := by simp
      have hqq := fun w => eq25 f i g j w
      have hgt := guard25
      rcases FACTS.out with ⟨rfl, rfl, rfl⟩ | ⟨rfl, rfl, rfl, hor⟩
      · clear hqq hgt
        go_wp2_with fail
        go_ret
        exact ⟨rfl, hfin⟩
      · rcases hor with hq | ⟨hq, rfl⟩
        · rw [hq] at hqq
          clear hq
          go_wp2_with fail
          go_ret
          exact ⟨rfl, hfin⟩
        · rw [hq] at hqq
          clear hq
          go_wp2_with fail
          go_ret
          exact ⟨rfl, hfin⟩

theorem last_walk (a0 : Option Addr) (cap0 : Nat) (l0 : List Int) (a1 : Option Addr) (cap1 : Nat) (l : List Ent) (f i g j : Int) (T : List UInt8) (w : World) (hc0 : IntsAt w a0 l0) (hc : ActsAt w a1 l) :
    Calls Try.prog 4 #[.slice a0 l0.length cap0, .slice a1 l.length cap1, .agg #[.int .i64 f, .int .i64 i], .agg #[.int .i64 g, .int .i64 j], .string ⟨T.toArray⟩] w fun e w' => e = .returned (.bool true) ∧ Below w.heap.size w w' := by
  by_cases h : 100 < l0.length ∨ 60 < l.length ∨ T.length ≠ 16
  · exact last_out a0 cap0 _ a1 cap1 _ f i g j T w h
  · exact last_in a0 cap0 l0 a1 cap1 l f i g j T w (by omega) (by omega) (by omega) hc0 hc
end Go.Proofs.Ytmemciebpnamkaa
