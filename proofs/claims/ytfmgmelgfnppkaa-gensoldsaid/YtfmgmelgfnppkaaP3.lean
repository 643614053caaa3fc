/-
  The contracts of Drop, Touch, Add.
-/
import Derived.Test.YtfmgmelgfnppkaaP2
namespace Go.Proofs.Ytfmgmelgfnppkaa
open Go.RowKit

section
variable {w w' : World} {t m : Nat} {L L' : List En}
theorem LsIs.but (h : LsIs w t m L) (hm : MapIs w' m L') (hb : But m w w') (ho : Ok L') : LsIs w' t m L' := ⟨h.h.but hb h.ne, hm, ho⟩
end

theorem noneE_some {L : List En} {i : Int} (h : (lk L i).isSome = true) : noneE L i = 0 := by simp [noneE, h]
theorem noneE_none {L : List En} {i : Int} (h : (lk L i).isSome = false) : noneE L i = 2 := by simp [noneE, h]
theorem some_ok {L : List En} {i : Int} (hi : (lk L i).isSome = true) : ∃ x, lk L i = some x := Option.isSome_iff_exists.1 hi
theorem none_of {L : List En} {i : Int} (h : (lk L i).isSome = false) : lk L i = none := by simpa using h

set_option maxHeartbeats 1000000 in
theorem pdrop (t m : Nat) (L : List En) (i : Int) (w : World) (h : LsIs w t m L) (hi : (Lit.int .i64 i).wf = true) :
    Calls Try.prog 24 #[.pointer (some ⟨t, 0, none⟩), .int .i64 i] w fun e w' => e = .returned (.int .i64 (noneE L i)) ∧ LsIs w' t m (dropL L i) ∧ Apart m w w' := by
  have HH : Hid (Calls Try.prog 36 #[.pointer (some ⟨t, 0, none⟩), .int .i64 i] w fun e w' => e = .returned (.bool (lk L i).isSome) ∧ Below w.heap.size w w') := phas t m L i w h hi
  cases hs : (lk L i).isSome with
  | false =>
    rw [hs] at HH
    have HE : Hid (noneE L i = 2) := noneE_none hs
    have HB : Hid (dropL L i = L) := dropL_none (none_of hs)
    clear hs
    go_enter Try.func24, Try.ntmps24
    go_wp2_with fail
    refine HH.out.mono ?_
    rintro e w1 ⟨rfl, hb⟩
    have H1 : Hid (LsIs w1 t m L) := h.below hb
    clear h
    go_wp2
    go_ret
    exact ⟨by rw [HE.out]; rfl, by rw [HB.out]; exact H1.out, Apart.ofBelow hb⟩
  | true =>
    rw [hs] at HH
    have HE : Hid (noneE L i = 0) := noneE_some hs
    clear hs
    go_enter Try.func24, Try.ntmps24
    go_wp2_with fail
    refine HH.out.mono ?_
    rintro e w1 ⟨rfl, hb⟩
    have h1 := h.below hb
    have H1 : Hid (LsIs w1 t m L) := h1
    have hc := h1.c0
    obtain ⟨w2, hrun, hm2, hb2⟩ := h1.m.drop h1.ok.srt hi 0
    have HM : Hid (MapIs w2 m (dropL L i)) := hm2
    have HB2 : Hid (But m w1 w2) := hb2
    clear h h1 hm2 hb2
    go_wp2
    go_ret
    exact ⟨by rw [HE.out]; rfl, H1.out.but HM.out HB2.out (dropL_ok H1.out.ok i), (Apart.ofBelow hb).trans (Apart.ofBut HB2.out)⟩

theorem touch_store {L : List En} {i : Int} {x : En} (h : Ok L) (hl : lk L i = some x) : ((touchL L i).length = if (lk L i).isSome then L.length else L.length + 1) ∧ ∀ j, lk (touchL L i) j = if j = i then some ⟨i, x.g, 0⟩ else lk L j := by
  refine ⟨by rw [hl]; simp [touchL, turn_len], fun j => ?_⟩
  rw [touchL_lk]
  by_cases hj : j = i
  · subst hj
    rw [if_pos rfl, hl]
    have := (h.lk hl).2
    simp [tou, this]
  · rw [if_neg hj]
    cases hq : lk L j with
    | none => rfl
    | some y =>
      have := (h.lk hq).2
      have hne : y.i ≠ i := by omega
      simp [tou, hne]

set_option maxHeartbeats 2000000 in
theorem ptouch (t m : Nat) (L : List En) (i : Int) (w : World) (h : LsIs w t m L) (hi : (Lit.int .i64 i).wf = true) (hL : L.length < 1000000) :
    Calls Try.prog 21 #[.pointer (some ⟨t, 0, none⟩), .int .i64 i] w fun e w' => e = .returned (.int .i64 (noneE L i)) ∧ LsIs w' t m (touchL L i) ∧ Apart m w w' := by
  have HH : Hid (Calls Try.prog 36 #[.pointer (some ⟨t, 0, none⟩), .int .i64 i] w fun e w' => e = .returned (.bool (lk L i).isSome) ∧ Below w.heap.size w w') := phas t m L i w h hi
  cases hs : (lk L i).isSome with
  | false =>
    rw [hs] at HH
    have HE : Hid (noneE L i = 2) := noneE_none hs
    have HB : Hid (touchL L i = L) := touchL_none (none_of hs)
    clear hs
    go_enter Try.func21, Try.ntmps21
    go_wp2_with fail
    refine HH.out.mono ?_
    rintro e w1 ⟨rfl, hb⟩
    have H1 : Hid (LsIs w1 t m L) := h.below hb
    clear h
    go_wp2
    go_ret
    exact ⟨by rw [HE.out]; rfl, by rw [HB.out]; exact H1.out, Apart.ofBelow hb⟩
  | true =>
    rw [hs] at HH
    have HE : Hid (noneE L i = 0) := noneE_some hs
    obtain ⟨x, hx⟩ := some_ok hs
    obtain ⟨k1, k2⟩ := touch_store h.ok hx
    have HK : Hid ((touchL L i).length = if (lk L i).isSome then L.length else L.length + 1) := k1
    have HK2 : Hid (∀ j, lk (touchL L i) j = if j = i then some ⟨i, x.g, 0⟩ else lk L j) := k2
    have HG : Hid (∀ w, LsIs w t m L → Calls Try.prog 19 #[.pointer (some ⟨t, 0, none⟩), .int .i64 i] w fun e w' => e = .returned (.int .i64 x.g) ∧ Below w.heap.size w w') := fun w h => by
      have := pgroup t m L i w h hi
      rwa [grpN_some hx] at this
    clear hs hx k1 k2
    go_enter Try.func21, Try.ntmps21
    go_wp2_with fail
    refine HH.out.mono ?_
    rintro e w1 ⟨rfl, hb⟩
    have h1 := h.below hb
    have hc := h1.c0
    have H1 : Hid (LsIs w1 t m L) := h1
    have HB1 : Hid (Below w.heap.size w w1) := hb
    have HG1 : Hid (∀ n, Calls Try.prog 19 #[.pointer (some ⟨t, 0, none⟩), .int .i64 i] (w1.drewN n) fun e w' => e = .returned (.int .i64 x.g) ∧ Below w1.heap.size (w1.drewN n) w') := fun n => HG.out _ (h1.drewN n)
    clear h h1 hb
    go_wp2_with fail
    go_region_with (go_at_call 19; refine (HG1.out 1).mono ?_; rintro e w2 ⟨rfl, hb2⟩; have H2 : Hid (LsIs w2 t m L) := (H1.out.drewN 1).below hb2; have hc2 := H2.out.c0; obtain ⟨w3, hrun, hm3, hb3⟩ := H2.out.m.store hi hL x.g 0 HK.out HK2.out; unfold sv at hrun; have HM3 : Hid (MapIs w3 m (touchL L i)) := hm3; have HB3 : Hid (But m w2 w3) := hb3; have HB2 : Hid (Below w1.heap.size w1 w2) := ⟨hb2.os, hb2.tape, hb2.output, hb2.size, hb2.block⟩; clear hm3 hb3 hb2)
    all_goals
      go_wp2
      go_ret
      exact ⟨by rw [HE.out]; rfl, H2.out.but HM3.out HB3.out (touchL_ok H1.out.ok i), ((Apart.ofBelow HB1.out).trans (Apart.ofBelow HB2.out)).trans (Apart.ofBut HB3.out)⟩

theorem add_store {L : List En} {i g : Int} {o : Bool} (h : Ok L) (he : addE L i g = 0) : ((addL L i g o).length = if (lk L i).isSome then L.length else L.length + 1) ∧ ∀ j, lk (addL L i g o) j = if j = i then some ⟨i, g, if o then 1 else 0⟩ else lk L j := by
  refine ⟨?_, addL_lk h o he⟩
  have h2 := (addE_zero.1 he).2
  rw [h2]
  unfold addL
  rw [if_pos he, ins_len (x := ⟨i, g, if o then 1 else 0⟩) h2]
  rfl

set_option maxHeartbeats 2000000 in
theorem padd (t m : Nat) (L : List En) (i g : Int) (o : Bool) (w : World) (h : LsIs w t m L) (hL : L.length < 1000000) :
    Calls Try.prog 25 #[.pointer (some ⟨t, 0, none⟩), .int .i64 i, .int .i64 g, .bool o] w fun e w' => e = .returned (.int .i64 (addE L i g)) ∧ LsIs w' t m (addL L i g o) ∧ Apart m w w' := by
  have HN : Hid (∀ x w, Calls Try.prog 39 #[.int .i64 x] w fun e w' => e = .returned (.bool (okI x)) ∧ w' = w) := pnum
  have H0 : Hid (LsIs w t m L) := h
  clear h
  cases h1 : okI i with
  | false =>
    have HE : Hid (addE L i g = 1) := by show _ = _; simp [addE, h1]
    have HB : Hid (addL L i g o = L) := by show _ = _; simp [addL, HE.out]
    have HN1 : Hid (∀ w, Calls Try.prog 39 #[.int .i64 i] w fun e w' => e = .returned (.bool false) ∧ w' = w) := fun w => h1 ▸ HN.out i w
    clear h1
    go_enter Try.func25, Try.ntmps25
    go_wp2_with fail
    refine (HN1.out _).mono ?_
    rintro e w1 ⟨rfl, rfl⟩
    go_wp2
    go_ret
    exact ⟨by rw [HE.out]; rfl, by rw [HB.out]; exact H0.out, Apart.refl _ _⟩
  | true =>
    have HN1 : Hid (∀ w, Calls Try.prog 39 #[.int .i64 i] w fun e w' => e = .returned (.bool true) ∧ w' = w) := fun w => h1 ▸ HN.out i w
    have hi := wf_ok h1
    cases h2 : okI g with
    | false =>
      have HE : Hid (addE L i g = 1) := by show _ = _; simp [addE, h2]
      have HB : Hid (addL L i g o = L) := by show _ = _; simp [addL, HE.out]
      have HN2 : Hid (∀ w, Calls Try.prog 39 #[.int .i64 g] w fun e w' => e = .returned (.bool false) ∧ w' = w) := fun w => h2 ▸ HN.out g w
      clear h1 h2
      go_enter Try.func25, Try.ntmps25
      go_wp2_with fail
      refine (HN1.out _).mono ?_
      rintro e w1 ⟨rfl, rfl⟩
      go_wp2_with fail
      refine (HN2.out _).mono ?_
      rintro e w1 ⟨rfl, rfl⟩
      go_wp2
      go_ret
      exact ⟨by rw [HE.out]; rfl, by rw [HB.out]; exact H0.out, Apart.refl _ _⟩
    | true =>
      have HN2 : Hid (∀ w, Calls Try.prog 39 #[.int .i64 g] w fun e w' => e = .returned (.bool true) ∧ w' = w) := fun w => h2 ▸ HN.out g w
      have HH : Hid (Calls Try.prog 36 #[.pointer (some ⟨t, 0, none⟩), .int .i64 i] w fun e w' => e = .returned (.bool (lk L i).isSome) ∧ Below w.heap.size w w') := phas t m L i w H0.out hi
      cases hs : (lk L i).isSome with
      | true =>
        rw [hs] at HH
        have HE : Hid (addE L i g = 4) := by show _ = _; simp [addE, h1, h2, hs]
        have HB : Hid (addL L i g o = L) := by show _ = _; simp [addL, HE.out]
        clear h1 h2 hs
        go_enter Try.func25, Try.ntmps25
        go_wp2_with fail
        refine (HN1.out _).mono ?_
        rintro e w1 ⟨rfl, rfl⟩
        go_wp2_with fail
        refine (HN2.out _).mono ?_
        rintro e w1 ⟨rfl, rfl⟩
        go_wp2_with fail
        refine HH.out.mono ?_
        rintro e w2 ⟨rfl, hb⟩
        go_wp2
        go_ret
        exact ⟨by rw [HE.out]; rfl, by rw [HB.out]; exact H0.out.below hb, Apart.ofBelow hb⟩
      | false =>
        rw [hs] at HH
        have HE : Hid (addE L i g = 0) := by show _ = _; simp [addE, h1, h2, hs]
        obtain ⟨k1, k2⟩ := add_store (o := o) H0.out.ok HE.out
        have HK : Hid ((addL L i g o).length = if (lk L i).isSome then L.length else L.length + 1) := k1
        have HK2 : Hid (∀ j, lk (addL L i g o) j = if j = i then some ⟨i, g, if o then 1 else 0⟩ else lk L j) := k2
        have HO : Hid (Ok (addL L i g o)) := addL_ok H0.out.ok i g o
        clear h1 h2 hs k1 k2
        cases o with
        | false =>
          go_enter Try.func25, Try.ntmps25
          go_wp2_with fail
          refine (HN1.out _).mono ?_
          rintro e w1 ⟨rfl, rfl⟩
          go_wp2_with fail
          refine (HN2.out _).mono ?_
          rintro e w1 ⟨rfl, rfl⟩
          go_wp2_with fail
          refine HH.out.mono ?_
          rintro e w2 ⟨rfl, hb⟩
          have H2 : Hid (LsIs w2 t m L) := H0.out.below hb
          have hc2 := H2.out.c0
          obtain ⟨w3, hrun, hm3, hb3⟩ := H2.out.m.store hi hL g 0 HK.out HK2.out
          unfold sv at hrun
          have HM3 : Hid (MapIs w3 m (addL L i g false)) := hm3
          have HB3 : Hid (But m w2 w3) := hb3
          clear hm3 hb3
          go_wp2
          go_ret
          exact ⟨by rw [HE.out]; rfl, H2.out.but HM3.out HB3.out HO.out, (Apart.ofBelow hb).trans (Apart.ofBut HB3.out)⟩
        | true =>
          go_enter Try.func25, Try.ntmps25
          go_wp2_with fail
          refine (HN1.out _).mono ?_
          rintro e w1 ⟨rfl, rfl⟩
          go_wp2_with fail
          refine (HN2.out _).mono ?_
          rintro e w1 ⟨rfl, rfl⟩
          go_wp2_with fail
          refine HH.out.mono ?_
          rintro e w2 ⟨rfl, hb⟩
          have H2 : Hid (LsIs w2 t m L) := H0.out.below hb
          have hc2 := H2.out.c0
          obtain ⟨w3, hrun, hm3, hb3⟩ := H2.out.m.store hi hL g 1 HK.out HK2.out
          unfold sv at hrun
          have HM3 : Hid (MapIs w3 m (addL L i g true)) := hm3
          have HB3 : Hid (But m w2 w3) := hb3
          clear hm3 hb3
          go_wp2
          go_ret
          exact ⟨by rw [HE.out]; rfl, H2.out.but HM3.out HB3.out HO.out, (Apart.ofBelow hb).trans (Apart.ofBut HB3.out)⟩
end Go.Proofs.Ytfmgmelgfnppkaa
