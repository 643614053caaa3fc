/-
  The law FilesSizes, walked: for every input it answers true.
-/
import Derived.Test.YtmemciebpnamkaaActs
namespace Go.Proofs.Ytmemciebpnamkaa
open Go.RowKit

theorem writeL_cases (S : List Nat) (L : List Ent) (f i : Int) (T : List UInt8) : (writeE S f i T = 0 ∧ (writeL S L f i T).length = L.length + 1) ∨ ((writeE S f i T == 0) = false ∧ writeL S L f i T = L) := by
  cases h : hasK S f i with
  | false => exact Or.inr ⟨by rw [writeE_no h]; rfl, writeL_no h⟩
  | true =>
    by_cases hT : T.length = 16
    · exact Or.inl ⟨writeE_ok h hT, by rw [writeL_ok h hT]; simp⟩
    · exact Or.inr ⟨by rw [writeE_no2 h hT]; rfl, writeL_no2 hT⟩

set_option maxHeartbeats 1000000 in
theorem sizes_out (a0 : Option Addr) (cap0 n0 : Nat) (f i : Int) (a2 : Option Addr) (cap2 n2 : Nat) (w : World) (h : 100 < n0 ∨ 60 < n2) :
    Calls Try.prog 6 #[.slice a0 n0 cap0, .agg #[.int .i64 f, .int .i64 i], .slice a2 n2 cap2] w fun e w' => e = .returned (.bool true) ∧ Below w.heap.size w w' := by
  by_cases h1 : 100 < n0
  · clear h
    go_enter Try.func6, Try.ntmps6
    go_wp2_with (go_at_call 7; refine (works_any _).mono ?_; rintro e w1 ⟨rfl, hb⟩)
    go_ret
    exact ⟨rfl, (below_alloc _ _).trans (hb.mono (by simp))⟩
  · have h2 : 60 < n2 := by omega
    clear h
    go_enter Try.func6, Try.ntmps6
    go_wp2_with (go_at_call 7; refine (works_any _).mono ?_; rintro e w1 ⟨rfl, hb⟩)
    go_ret
    exact ⟨rfl, (below_alloc _ _).trans (hb.mono (by simp))⟩

/-- The box of a key. -/
theorem boxed (w : World) (f i : Int) : ∃ w0, w0 = w.alloc (.cells #[.int .i64 f, .int .i64 i] 25) ∧ RowAt w0 w.heap.size 25 [.int .i64 f, .int .i64 i] ∧ Below w.heap.size w w0 ∧ w.heap.size < w0.heap.size :=
  ⟨_, rfl, RowAt.new w _ 25, below_alloc _ _, by simp⟩

set_option maxRecDepth 100000 in
set_option maxHeartbeats 4000000 in
theorem sizes_in (a0 : Option Addr) (cap0 : Nat) (l0 : List Int) (f i : Int) (a2 : Option Addr) (cap2 : Nat) (l : List Ent) (w : World) (h0 : l0.length ≤ 100) (h2 : l.length ≤ 60) (hc0 : IntsAt w a0 l0) (hc : ActsAt w a2 l) :
    Calls Try.prog 6 #[.slice a0 l0.length cap0, .agg #[.int .i64 f, .int .i64 i], .slice a2 l.length cap2] w fun e w' => e = .returned (.bool true) ∧ Below w.heap.size w w' := by
  have d1 : decide ((100 : Int) < (l0.length : Int)) = false := by simp; omega
  have d2 : decide ((60 : Int) < (l.length : Int)) = false := by simp; omega
  go_enter Try.func6, Try.ntmps6
  go_wp2_with fail
  obtain ⟨w0, hw0, hk0, hb0, hlt0⟩ := boxed w f i
  rw [← hw0]
  clear hw0
  have hc0' := hc0.below hb0
  have hc' := hc.below hb0
  clear hc0 hc
  refine (works_any _).mono ?_
  rintro e w1 ⟨rfl, hb1⟩
  go_wp2_with fail
  refine (newO (w0 := w0) a0 cap0 l0 (by omega) (hc0'.below hb1) hb1).mono ?_
  rintro e w2 ⟨s, p, m, rfl, ho⟩
  clear hb1
  have hSl := sizesOf_len l0
  obtain ⟨S, hS⟩ : ∃ S, S = sizesOf l0 := ⟨_, rfl⟩
  rw [← hS] at ho hSl
  clear hS
  have hk2 := hk0.below ho.bel hlt0
  have k0 : w2.cell? ⟨w.heap.size, 0, none⟩ = some (.int .i64 f) := by rw [hk2.cell]; rfl
  have k1 : w2.cell? ⟨w.heap.size, 1, none⟩ = some (.int .i64 i) := by rw [hk2.cell]; rfl
  have HSL : Hid (S.length = min l0.length 32) := hSl
  clear hSl hk2
  go_wp2_with fail
  refine (sizeO f ho).mono ?_
  rintro e w3 ⟨rfl, rfl⟩
  go_wp2_with fail
  refine (readO f i ho).mono ?_
  rintro e w3 ⟨rfl, -, ho3⟩
  clear k0 k1 ho
  have hk3 := hk0.below ho3.bel hlt0
  have k0 : w3.cell? ⟨w.heap.size, 0, none⟩ = some (.int .i64 f) := by rw [hk3.cell]; rfl
  have k1 : w3.cell? ⟨w.heap.size, 1, none⟩ = some (.int .i64 i) := by rw [hk3.cell]; rfl
  obtain ⟨n, hn⟩ : ∃ n, n = sizeK S f := ⟨_, rfl⟩
  obtain ⟨E, hE⟩ : ∃ n, n = readE S f i := ⟨_, rfl⟩
  obtain ⟨tR, htR⟩ : ∃ t, t = readT S [] f i := ⟨_, rfl⟩
  obtain ⟨ok, hok⟩ : ∃ b, b = hasK S f i := ⟨_, rfl⟩
  have HOK : Hid (ok = (decide (0 ≤ i) && decide (i < n))) := by show _ = _; rw [hok, hn]; rfl
  have HE : Hid (E = if ok then 0 else 2) := by show _ = _; rw [hE, hok]; rfl
  rw [← hn, ← hE, ← htR]
  have HN : Hid (n = sizeK S f) := hn
  clear hn hE htR hok hk3
  go_upto_region 9 with fail
  go_cut [12] (fun s12 wx => s12 = .bool ok ∧ wx = w3)
  case first =>
    by_cases q : 0 ≤ i
    · have HO : Hid (ok = decide (i < n)) := by show _ = _; rw [HOK.out]; simp [q]
      go_wp2_with fail
      go_meet
      exact ⟨by rw [HO.out], rfl⟩
    · have HO : Hid (ok = false) := by show _ = _; rw [HOK.out]; simp [q]
      have q1 : i < 0 := by omega
      go_wp2_with fail
      go_meet
      exact ⟨by rw [HO.out], rfl⟩
  case rest =>
    obtain ⟨rfl, rfl⟩ := hcut
    clear k0 k1 HOK
    go_wp2
    go_loopw [13, 14] (fun s13 s14 wr => ∃ (j : Nat) (L : List Ent), j ≤ l.length ∧ s14 = .int .i64 j ∧ s13 = .int .i64 L.length ∧ L.length ≤ j ∧ Own w0 wr s p m S L) (fun _ s14 _ => l.length - (intOf s14).toNat)
    case atStart => exact ⟨0, [], by omega, rfl, rfl, by simp, ho3⟩
    case round =>
      clear ho3
      obtain ⟨j, L, hj, rfl, rfl, hLj, ho⟩ := hrel
      by_cases hlt : j < l.length
      · have hcr := hc'.below ho.bel
        obtain ⟨b, off, e, rfl, e0, e1, e2⟩ := hcr.at hlt
        obtain ⟨F, hF⟩ : ∃ F, F = e.f := ⟨_, rfl⟩
        obtain ⟨I, hI⟩ : ∃ F, F = e.i := ⟨_, rfl⟩
        obtain ⟨T, hT⟩ : ∃ F, F = e.t := ⟨_, rfl⟩
        obtain ⟨t, ht⟩ : ∃ t : ByteArray, t = ⟨T.toArray⟩ := ⟨_, rfl⟩
        rw [← hF] at e0
        rw [← hI] at e1
        rw [← hT, ← ht] at e2
        have HT : Hid (t = ⟨T.toArray⟩) := ht
        clear hF hI hT ht hcr
        have hLl : L.length < 1000000 := by omega
        have H13 : Hid (Calls Try.prog 13 #[.pointer (some ⟨s, 0, none⟩), .agg #[.int .i64 F, .int .i64 I], .string t] wr.drew fun e w' => e = .returned (.int .i64 (writeE S F I T)) ∧ Own w0 w' s p m S (writeL S L F I T)) := by
          rw [HT.out]
          exact writeO F I T (ho.drewN 1) hLl
        go_upto_region 14 with fail
        go_cut [66] (fun s66 wx => s66 = .bool (writeE S F I T == 0) ∧ Own w0 wx s p m S (writeL S L F I T))
        case first =>
          go_wp2
          go_region_with (go_at_call 13; refine H13.out.mono ?_; rintro e w4 ⟨rfl, h4⟩)
          all_goals
            go_wp2
            go_meet
            exact ⟨rfl, h4⟩
        case rest =>
          clear ho H13 e0 e1 e2
          obtain ⟨rfl, ho⟩ := hcut
          rcases writeL_cases S L F I T with ⟨c1, c2⟩ | ⟨c1, c2⟩
          · have c3 : (writeE S F I T == 0) = true := by rw [c1]; rfl
            clear c1
            have C2 : Hid ((writeL S L F I T).length = L.length + 1) := c2
            clear c2
            rw [c3]
            clear c3
            go_wp2
            exact ⟨⟨j + 1, writeL S L F I T, by omega, by go_num, by rw [C2.out]; go_num, by have := C2.out; omega, ho⟩, by simp [intOf]; omega⟩
          · rw [c2] at ho
            rw [c1]
            clear c1 c2
            go_wp2
            exact ⟨⟨j + 1, L, by omega, by go_num, rfl, by omega, ho⟩, by simp [intOf]; omega⟩
      · have hkr := hk0.below ho.bel hlt0
        have k0 : wr.cell? ⟨w.heap.size, 0, none⟩ = some (.int .i64 f) := by rw [hkr.cell]; rfl
        have hfin : Below w.heap.size w wr := hb0.trans (ho.bel.mono (by omega))
        clear hkr hc'
        have hS32 : (l0.length ≤ 32 ∧ S.length = l0.length) ∨ (32 < l0.length ∧ S.length = 32) := by
          have := HSL.out
          omega
        have n1 : (n == n) = true := by simp
        have n2 : ((L.length : Int) == (L.length : Int)) = true := by simp
        cases ok with
        | true =>
          have hE : E = 0 := HE.out
          subst hE
          rcases hS32 with ⟨c1, c2⟩ | ⟨c1, c2⟩
          · have C2 : Hid (S.length = l0.length) := c2
            clear c2
            go_wp2_with fail
            refine (sizeO f ho).mono ?_
            rintro e w6 ⟨rfl, rfl⟩
            rw [← HN.out]
            go_wp2_with fail
            refine (writesO ho).mono ?_
            rintro e w6 ⟨rfl, rfl⟩
            go_wp2_with fail
            refine (countO ho).mono ?_
            rintro e w6 ⟨rfl, rfl⟩
            rw [C2.out]
            go_wp2_with fail
            go_ret
            exact ⟨rfl, hfin⟩
          · have C2 : Hid (S.length = 32) := c2
            clear c2
            go_wp2_with fail
            refine (sizeO f ho).mono ?_
            rintro e w6 ⟨rfl, rfl⟩
            rw [← HN.out]
            go_wp2_with fail
            refine (writesO ho).mono ?_
            rintro e w6 ⟨rfl, rfl⟩
            go_wp2_with fail
            refine (countO ho).mono ?_
            rintro e w6 ⟨rfl, rfl⟩
            rw [C2.out]
            go_wp2_with fail
            go_ret
            exact ⟨rfl, hfin⟩
        | false =>
          have hE : E = 2 := HE.out
          subst hE
          rcases hS32 with ⟨c1, c2⟩ | ⟨c1, c2⟩
          · have C2 : Hid (S.length = l0.length) := c2
            clear c2
            go_wp2_with fail
            refine (sizeO f ho).mono ?_
            rintro e w6 ⟨rfl, rfl⟩
            rw [← HN.out]
            go_wp2_with fail
            refine (writesO ho).mono ?_
            rintro e w6 ⟨rfl, rfl⟩
            go_wp2_with fail
            refine (countO ho).mono ?_
            rintro e w6 ⟨rfl, rfl⟩
            rw [C2.out]
            go_wp2_with fail
            go_ret
            exact ⟨rfl, hfin⟩
          · have C2 : Hid (S.length = 32) := c2
            clear c2
            go_wp2_with fail
            refine (sizeO f ho).mono ?_
            rintro e w6 ⟨rfl, rfl⟩
            rw [← HN.out]
            go_wp2_with fail
            refine (writesO ho).mono ?_
            rintro e w6 ⟨rfl, rfl⟩
            go_wp2_with fail
            refine (countO ho).mono ?_
            rintro e w6 ⟨rfl, rfl⟩
            rw [C2.out]
            go_wp2_with fail
            go_ret
            exact ⟨rfl, hfin⟩

theorem sizes_walk (a0 : Option Addr) (cap0 : Nat) (l0 : List Int) (f i : Int) (a2 : Option Addr) (cap2 : Nat) (l : List Ent) (w : World) (hc0 : IntsAt w a0 l0) (hc : ActsAt w a2 l) :
    Calls Try.prog 6 #[.slice a0 l0.length cap0, .agg #[.int .i64 f, .int .i64 i], .slice a2 l.length cap2] w fun e w' => e = .returned (.bool true) ∧ Below w.heap.size w w' := by
  by_cases h : 100 < l0.length ∨ 60 < l.length
  · exact sizes_out a0 cap0 _ f i a2 cap2 _ w h
  · exact sizes_in a0 cap0 l0 f i a2 cap2 l w (by omega) (by omega) hc0 hc
end Go.Proofs.Ytmemciebpnamkaa
