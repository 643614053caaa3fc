/-
  ControlStats, walked.
-/
import Derived.Test.YtbkeoaombhhdiaaDoorWorks
namespace Go.Proofs.YtbkeoaombhhdiaaDoor
open Go.RowKit

theorem tx_inj : ∀ {N M : List ByteArray}, tx N = tx M → N = M
  | [], [], _ => rfl
  | [], _ :: _, h => by cases h
  | _ :: _, [], h => by cases h
  | a :: N, b :: M, h => by
    have h1 : a.data.toList :: tx N = b.data.toList :: tx M := h
    obtain ⟨h2, h3⟩ := List.cons.inj h1
    rw [ba_ext h2, tx_inj h3]
theorem pars_none {e : Ending} {w : World} (h : Pars none e w) : e = .returned (.tuple #[.slice Option.none 0 0, .slice Option.none 0 0, .int .i64 20]) := h
theorem stE_form (N : List Bs) (V : List Int) : ∃ (s : ByteArray) (x : Int), stE N V = .returned (.tuple #[.string s, .int .i64 x]) := by
  cases h : stOk N V.length with
  | true => exact ⟨_, _, stE_yes h⟩
  | false => exact ⟨_, _, stE_no h⟩
theorem none_texts (w : World) : Calls Tryd.prog 19 #[.slice Option.none 0 0, .slice Option.none 0 0] w fun e w' => e = .returned (.bool true) ∧ Below w.heap.size w w' :=
  ptexts Option.none Option.none 0 0 [] [] w (Strs.nil _ _) (Strs.nil _ _) (by decide)
theorem none_row (w : World) : Calls Tryd.prog 20 #[.slice Option.none 0 0, .slice Option.none 0 0] w fun e w' => e = .returned (.bool true) ∧ Below w.heap.size w w' :=
  prow Option.none Option.none 0 0 [] [] w (fun i h => by cases h) (fun i h => by cases h) (by decide)
theorem same_texts (a b : Option Addr) (c c2 : Nat) (N : List ByteArray) (w : World) (h1 : Strs w a N) (h2 : Strs w b N) (hl : N.length ≤ 9223372036854775807) :
    Calls Tryd.prog 19 #[.slice a N.length c, .slice b N.length c2] w fun e w' => e = .returned (.bool true) ∧ Below w.heap.size w w' := by
  have := ptexts a b c c2 N N w h1 h2 hl
  rwa [decide_eq_true rfl] at this
theorem same_row (a b : Option Addr) (c c2 : Nat) (V : List Int) (w : World) (h1 : Ints w a V) (h2 : Ints w b V) (hl : V.length ≤ 9223372036854775807) :
    Calls Tryd.prog 20 #[.slice a V.length c, .slice b V.length c2] w fun e w' => e = .returned (.bool true) ∧ Below w.heap.size w w' := by
  have := prow a b c c2 V V w h1 h2 hl
  rwa [decide_eq_true rfl] at this
/-- What a stat tells is few. -/
theorem par_len {T : Bs} {n : List Bs} {v : List Int} (h : par T = some (n, v)) : n.length ≤ 100 ∧ v.length ≤ 100 ∧ ∀ x ∈ n, x.length ≤ 40 := by
  obtain ⟨h1, -, -⟩ := (par_iff T n v).1 h
  unfold stOk at h1
  simp only [Bool.and_eq_true, decide_eq_true_eq] at h1
  obtain ⟨h2, h3, h4, -⟩ := h1
  refine ⟨h3, by omega, fun x hx => isW_len (List.all_eq_true.1 h4 x hx)⟩
set_option maxRecDepth 100000 in
set_option maxHeartbeats 4000000 in
theorem stats_walk (a : Option Addr) (cap : Nat) (L : List ByteArray) (b : Option Addr) (cap2 : Nat) (V : List Int) (text : ByteArray) (w : World) (ht : Tabs w) (hL : Strs w a L) (hS : Short L) (hl : L.length ≤ 9223372036854775807)
    (hV : Ints w b V) (h64 : I64s V) (hv : V.length ≤ 9223372036854775807) (hz : text.size ≤ maxLen) :
    Calls Tryd.prog 4 #[.slice a L.length cap, .slice b V.length cap2, .string text] w fun e w' => e = .returned (.bool true) ∧ Below w.heap.size w w' := by
  have HT : Hid (Tabs w) := ht
  have HL : Hid (Strs w a L) := hL
  have HV : Hid (Ints w b V) := hV
  have HZ : Hid (text.size ≤ maxLen) := hz
  have HO : Hid (∀ w, Strs w a L → Calls Tryd.prog 14 #[.slice a L.length cap] w fun e w' => e = .returned (.bool (overB L)) ∧ w' = w) := fun w h => pover a cap L w h hl
  obtain ⟨st, x, hst⟩ := stE_form (tx L) V
  have HP : Hid (∀ w, Strs w a L → Ints w b V → Tabs w → Calls Tryd.prog 15 #[.slice a L.length cap, .slice b V.length cap2] w fun e w' => e = .returned (.tuple #[.string st, .int .i64 x]) ∧ Below w.heap.size w w') := fun w h1 h2 h3 => by
    have := pstat a b cap cap2 L V w h1 hS h2 h64 hl h3
    rwa [hst] at this
  have HR : Hid (∀ w, Strs w a L → Ints w b V → Calls Tryd.prog 16 #[.slice a L.length cap, .slice b V.length cap2] w fun e w' => e = .returned (.tuple #[.string st, .int .i64 x]) ∧ Below w.heap.size w w') := fun w h1 h2 => by
    have := rstat a b cap cap2 L V w h1 hS h2 h64 hl
    rwa [hst] at this
  unfold maxLen at hz
  clear ht hL hV hS h64 hst
  cases ho : overB L with
  | true =>
    go_enter Tryd.func4, Tryd.ntmps4
    go_wp2_with (go_at_call 9; refine (works_any _ HT.out).mono ?_; rintro e w1 ⟨rfl, hb1⟩)
    refine (HO.out _ (HL.out.below hb1)).mono ?_
    rintro e w2 ⟨rfl, hw2⟩
    rw [hw2, ho]
    clear hw2 w2
    go_wp2_with fail
    go_ret
    exact ⟨rfl, hb1⟩
  | false =>
    by_cases h1 : (120 : Int) < V.length
    · go_enter Tryd.func4, Tryd.ntmps4
      go_wp2_with (go_at_call 9; refine (works_any _ HT.out).mono ?_; rintro e w1 ⟨rfl, hb1⟩)
      refine (HO.out _ (HL.out.below hb1)).mono ?_
      rintro e w2 ⟨rfl, hw2⟩
      rw [hw2, ho]
      clear hw2 w2
      go_wp2_with fail
      go_ret
      exact ⟨rfl, hb1⟩
    by_cases h2 : (1000 : Int) < text.size
    · go_enter Tryd.func4, Tryd.ntmps4
      go_wp2_with (go_at_call 9; refine (works_any _ HT.out).mono ?_; rintro e w1 ⟨rfl, hb1⟩)
      refine (HO.out _ (HL.out.below hb1)).mono ?_
      rintro e w2 ⟨rfl, hw2⟩
      rw [hw2, ho]
      clear hw2 w2
      go_wp2_with fail
      go_ret
      exact ⟨rfl, hb1⟩
    have HZ2 : Hid (text.size ≤ 1000000) := by show _ ≤ _; omega
    have HW1 : Hid (∀ w, Calls Tryd.prog 21 #[.string text] w fun e w' => e = .returned (.bool (isW text.data.toList)) ∧ w' = w) := fun w => pword text w HZ.out
    have HW2 : Hid (∀ w, Calls Tryd.prog 22 #[.string text] w fun e w' => e = .returned (.bool (isW text.data.toList)) ∧ w' = w) := fun w => rword text w HZ.out
    go_enter Tryd.func4, Tryd.ntmps4
    go_wp2_with (go_at_call 9; refine (works_any _ HT.out).mono ?_; rintro e w1 ⟨rfl, hb1⟩)
    refine (HO.out _ (HL.out.below hb1)).mono ?_
    rintro e w2 ⟨rfl, hw2⟩
    rw [hw2, ho]
    clear hw2 w2
    go_wp2_with fail
    refine (HP.out _ (HL.out.below hb1) (HV.out.below hb1) (HT.out.below hb1)).mono ?_
    rintro e w2 ⟨rfl, hb2⟩
    have hb2' := hb1.trans (hb2.mono hb1.size)
    clear hb1 hb2
    go_wp2_with fail
    refine (HR.out _ (HL.out.below hb2') (HV.out.below hb2')).mono ?_
    rintro e w3 ⟨rfl, hb3⟩
    have hb3' := hb2'.trans (hb3.mono hb2'.size)
    clear hb2' hb3
    go_wp2_with fail
    obtain ⟨p, hp⟩ : ∃ p, par text.data.toList = p := ⟨_, rfl⟩
    cases p with
    | none =>
      refine (pparse text _ HZ2.out (HT.out.below hb3')).mono ?_
      rw [hp]
      rintro e w4 ⟨he, hb4⟩
      obtain rfl := pars_none he
      have hb4' := hb3'.trans (hb4.mono hb3'.size)
      clear hb3' hb4 he
      go_wp2_with fail
      refine (rparse text _ HZ2.out).mono ?_
      rw [hp]
      rintro e w5 ⟨he, hb5⟩
      obtain rfl := pars_none he
      have hb5' := hb4'.trans (hb5.mono hb4'.size)
      clear hb4' hb5 he
      go_wp2_with fail
      refine (none_texts _).mono ?_
      rintro e w6 ⟨rfl, hb6⟩
      have hb6' := hb5'.trans (hb6.mono hb5'.size)
      clear hb5' hb6
      go_wp2_with fail
      refine (none_row _).mono ?_
      rintro e w7 ⟨rfl, hb7⟩
      have hb7' := hb6'.trans (hb7.mono hb6'.size)
      clear hb6' hb7
      go_wp2_with fail
      refine (HW1.out _).mono ?_
      rintro e w8 ⟨rfl, hw8⟩
      rw [hw8]
      clear hw8 w8
      go_wp2_with fail
      refine (HW2.out _).mono ?_
      rintro e w8 ⟨rfl, hw8⟩
      rw [hw8]
      clear hw8 w8
      go_wp2_with fail
      go_ret
      exact ⟨rfl, hb7'⟩
    | some r =>
      obtain ⟨n, v⟩ := r
      have HN := par_len hp
      refine (pparse text _ HZ2.out (HT.out.below hb3')).mono ?_
      rw [hp]
      rintro e w4 ⟨⟨N, a1, a2, d1, d2, hN, rfl, hs1, hi1⟩, hb4⟩
      have hb4' := hb3'.trans (hb4.mono hb3'.size)
      clear hb3' hb4
      go_wp2_with fail
      refine (rparse text _ HZ2.out).mono ?_
      rw [hp]
      rintro e w5 ⟨⟨M, b1, b2, e1, e2, hM, rfl, hs2, hi2⟩, hb5⟩
      have hb5' := hb4'.trans (hb5.mono hb4'.size)
      obtain rfl : M = N := tx_inj (by rw [hM, hN])
      have hs1' := hs1.below hb5
      have hi1' := hi1.below hb5
      have hml : M.length ≤ 100 := by rw [← tx_length, hM]; exact HN.1
      have hvl : v.length ≤ 100 := HN.2.1
      have HTX : Hid (∀ w, Strs w a1 M → Strs w b1 M → Calls Tryd.prog 19 #[.slice a1 M.length d1, .slice b1 M.length e1] w fun e w' => e = .returned (.bool true) ∧ Below w.heap.size w w') := fun w h1 h2 => same_texts a1 b1 d1 e1 M w h1 h2 (by omega)
      have HRW : Hid (∀ w, Ints w a2 v → Ints w b2 v → Calls Tryd.prog 20 #[.slice a2 v.length d2, .slice b2 v.length e2] w fun e w' => e = .returned (.bool true) ∧ Below w.heap.size w w') := fun w h1 h2 => same_row a2 b2 d2 e2 v w h1 h2 (by omega)
      clear hb4' hb5 hs1 hi1 hN hM HN hp
      go_wp2_with fail
      refine (HTX.out _ hs1' hs2).mono ?_
      rintro e w6 ⟨rfl, hb6⟩
      have hb6' := hb5'.trans (hb6.mono hb5'.size)
      have hi1'' := hi1'.below hb6
      have hi2' := hi2.below hb6
      clear hb5' hb6 hi1' hi2 hs1' hs2
      go_wp2_with fail
      refine (HRW.out _ hi1'' hi2').mono ?_
      rintro e w7 ⟨rfl, hb7⟩
      have hb7' := hb6'.trans (hb7.mono hb6'.size)
      clear hb6' hb7 hi1'' hi2'
      go_wp2_with fail
      refine (HW1.out _).mono ?_
      rintro e w8 ⟨rfl, hw8⟩
      rw [hw8]
      clear hw8 w8
      go_wp2_with fail
      refine (HW2.out _).mono ?_
      rintro e w8 ⟨rfl, hw8⟩
      rw [hw8]
      clear hw8 w8
      go_wp2_with fail
      go_ret
      exact ⟨rfl, hb7'⟩
end Go.Proofs.YtbkeoaombhhdiaaDoor
