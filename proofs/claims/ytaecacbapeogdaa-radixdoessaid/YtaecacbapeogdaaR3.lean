/-
  The document's table: the contract of Set.
-/
import Derived.Test.YtaecacbapeogdaaR2
namespace Go.Proofs.Ytaecacbapeogdaa
open Go.RowKit

theorem rpage (x : Int) (w : World) : Calls Try.prog 30 #[.int .i64 x] w fun e w' => e = .returned (.bool (decide (0 ≤ x) && decide (x < 65536))) ∧ w' = w := by
  by_cases h : 0 ≤ x
  · go_enter Try.func30, Try.ntmps30
    go_wp2
    go_ret
    exact ⟨by simp [h], rfl⟩
  · have hd : decide (0 ≤ x) = false := by simp; omega
    rw [hd]
    go_enter Try.func30, Try.ntmps30
    go_wp2
    go_ret
    exact ⟨rfl, rfl⟩

/-- Where a page belongs. -/
theorem split_at {D : Ws} (h : Rise D) (p : Nat) (hn : ∀ e ∈ D, e.1 ≠ p) : ∃ A C, D = A ++ C ∧ (∀ e ∈ A, e.1 < p) ∧ (∀ e ∈ C, p < e.1) := by
  induction D with
  | nil => exact ⟨[], [], rfl, fun _ h => (by cases h), fun _ h => (by cases h)⟩
  | cons e D ih =>
    have h' := List.pairwise_cons.1 h
    by_cases he : e.1 < p
    · obtain ⟨A, C, rfl, hA, hC⟩ := ih h'.2 (fun e he => hn e (by simp [he]))
      refine ⟨e :: A, C, rfl, fun e' he' => ?_, hC⟩
      rcases List.mem_cons.1 he' with rfl | he'
      · exact he
      · exact hA e' he'
    · refine ⟨[], e :: D, rfl, fun _ h => (by cases h), fun e' he' => ?_⟩
      have := hn e (by simp)
      rcases List.mem_cons.1 he' with rfl | he'
      · omega
      · have := h'.1 e' he'
        omega
/-- How far the new row is. -/
def insK (A C : Ws) (p : Nat) (x : Int) (i : Nat) : Ws := if i ≤ A.length then A.take i else A ++ (p, x) :: C.take (i - A.length)
theorem insK_low {A C : Ws} {p : Nat} {x : Int} {i : Nat} (h : i < A.length) : insK A C p x (i + 1) = insK A C p x i ++ [(A ++ C)[i]'(by simp; omega)] := by
  unfold insK
  rw [if_pos (by omega), if_pos (by omega), ← List.take_append_getElem h, List.getElem_append_left h]
theorem insK_mid {A C : Ws} {p : Nat} {x : Int} (h : 0 < C.length) : insK A C p x (A.length + 1) = insK A C p x A.length ++ [(p, x)] ++ [(A ++ C)[A.length]'(by simp; omega)] := by
  unfold insK
  rw [if_neg (by omega), if_pos (Nat.le_refl _), List.take_length, show A.length + 1 - A.length = 0 + 1 by omega, ← List.take_append_getElem h, List.getElem_append_right (Nat.le_refl _)]
  simp
theorem insK_high {A C : Ws} {p : Nat} {x : Int} {i : Nat} (h : A.length < i) (hi : i < A.length + C.length) : insK A C p x (i + 1) = insK A C p x i ++ [(A ++ C)[i]'(by simp; omega)] := by
  unfold insK
  have hl : i - A.length < C.length := by omega
  rw [if_neg (by omega), if_neg (by omega), show i + 1 - A.length = (i - A.length) + 1 by omega, ← List.take_append_getElem hl, List.getElem_append_right (by omega)]
  simp
theorem insK_len {A C : Ws} {p : Nat} {x : Int} {i : Nat} : (insK A C p x i).length ≤ i + 1 := by
  unfold insK
  split
  · simp; omega
  · simp; omega
theorem ins_rise {A C : Ws} {p : Nat} {x : Int} (h : Rise (A ++ C)) (hA : ∀ e ∈ A, e.1 < p) (hC : ∀ e ∈ C, p < e.1) : Rise (A ++ (p, x) :: C) := by
  unfold Rise at h ⊢
  rw [List.pairwise_append] at h ⊢
  refine ⟨h.1, List.pairwise_cons.2 ⟨fun e he => hC e he, h.2.1⟩, fun a ha b hb => ?_⟩
  rcases List.mem_cons.1 hb with rfl | hb
  · exact hA a ha
  · exact h.2.2 a ha b hb
theorem ins_look {A C : Ws} {p : Nat} {x : Int} (h : Rise (A ++ C)) (hA : ∀ e ∈ A, e.1 < p) (hC : ∀ e ∈ C, p < e.1) : lookD (A ++ (p, x) :: C) = setW (lookD (A ++ C)) p x := by
  apply lookD_ext (ins_rise h hA hC)
  intro q y
  unfold setW
  by_cases e : q = p
  · subst e
    rw [if_pos rfl]
    constructor
    · intro hm
      rcases List.mem_append.1 hm with h1 | h1
      · have := hA _ h1; simp only at this; omega
      · rcases List.mem_cons.1 h1 with h2 | h2
        · injection h2 with _ h2
          rw [h2]
        · have := hC _ h2; simp only at this; omega
    · intro h1
      injection h1 with h1
      simp [h1]
  · rw [if_neg e, lookD_some h]
    simp only [List.mem_append, List.mem_cons, Prod.mk.injEq]
    constructor
    · rintro (h1 | h1 | h1)
      · exact .inl h1
      · exact absurd h1.1 e
      · exact .inr h1
    · rintro (h1 | h1)
      · exact .inl h1
      · exact .inr (.inr h1)

/-- A word behind a row of its own. -/
theorem own_snoc {w3 : World} {B : Nat} {v' : Value} {L : Ws} {e : Nat × Int} (h : w3.ownsRow B 56 2 v' (L.length + 1) (flat L ++ [.int .i64 e.1, .int .u64 e.2])) : w3.ownsRow B 56 2 v' (L ++ [e]).length (flat (L ++ [e])) := by
  rw [flat_snoc]
  simpa [wdCells] using h

set_option maxRecDepth 100000 in
set_option maxHeartbeats 4000000 in
theorem rset (B r : Nat) (D : Ws) (v : Value) (xx : Int) (x : Int) (w : World) (h : RefIs w B r D v) (hBw : B ≤ w.heap.size) (hR : Rise D) (hP : ∀ e ∈ D, e.1 < 65536) (hD : D.length < 90000) :
    Calls Try.prog 15 #[.pointer (some ⟨r, 0, none⟩), .int .i64 xx, .int .u64 x] w fun e w' => ∃ v' D', e = .returned (.int .i64 (setE xx)) ∧ RefIs w' B r D' v' ∧ Rise D' ∧ (∀ e ∈ D', e.1 < 65536) ∧ lookD D' = setI (lookD D) xx x ∧ D'.length ≤ D.length + 1 ∧ Turn (fun k => k = r) w w' := by
  cases hx : isPg xx with
  | false =>
    have e1 : (decide (0 ≤ xx) && decide (xx < 65536)) = false := hx
    have HE : Hid (setE xx = 1) := by show _ = _; simp [setE, hx]
    have HW : Hid (lookD D = setI (lookD D) xx x) := by show _ = _; simp [setI, hx]
    clear hx
    go_enter Try.func15, Try.ntmps15
    go_wp2_with fail
    refine (rpage _ _).mono ?_
    rintro e w1 ⟨rfl, rfl⟩
    rw [e1]
    go_wp2
    go_ret
    exact ⟨v, D, by rw [HE.out]; rfl, h, hR, hP, HW.out, by omega, Turn.refl _ _⟩
  | true =>
    obtain ⟨p, rfl, hp⟩ := isPg_true hx
    have e1 : (decide (0 ≤ (p : Int)) && decide ((p : Int) < 65536)) = true := hx
    have HE : Hid (setE p = 0) := by show _ = _; simp [setE, hx]
    have HW : Hid (setI (lookD D) p x = setW (lookD D) p x) := by show _ = _; simp [setI, hx]
    obtain ⟨i0, hi, hz0, hz1, hz2⟩ := info_parts info56
    have hRd := dropD_rise hR p
    have hld := dropD_look hR hP p
    have hne : ∀ e ∈ dropD D p, e.1 ≠ p := by
      intro e he
      have := (List.mem_filter.1 he).2
      simp only [bne_iff_ne, ne_eq] at this
      omega
    have hPd : ∀ e ∈ dropD D p, e.1 < 65536 := fun e he => hP e (List.mem_filter.1 he).1
    have hlen : (dropD D p).length ≤ D.length := List.length_filter_le _ _
    obtain ⟨A, C, hAC, hA, hC⟩ := split_at hRd p hne
    have hlook : lookD (A ++ (p, x) :: C) = setI (lookD D) p x := by
      rw [hAC] at hRd hld
      rw [ins_look hRd hA hC, hld, HW.out]
      funext q
      unfold delI
      rw [isPg_nat hp, if_pos rfl, Int.toNat_natCast]
      unfold setW delW
      by_cases e : q = p
      · rw [if_pos e, if_pos e]
      · rw [if_neg e, if_neg e, if_neg e]
    rw [hAC] at hRd hPd hlen
    have hrise := ins_rise (x := x) hRd hA hC
    have HF : Hid (∀ wx u, (∃ w1, Turn (fun k => k = r) w w1 ∧ Turn (fun k => k = r) w1 wx) → RefIs wx B r (A ++ (p, x) :: C) u → ∃ v' D', RefIs wx B r D' v' ∧ Rise D' ∧ (∀ e ∈ D', e.1 < 65536) ∧ lookD D' = setI (lookD D) p x ∧ D'.length ≤ D.length + 1 ∧ Turn (fun k => k = r) w wx) := by
      rintro wx u ⟨w1, t1, t2⟩ hu
      refine ⟨u, _, hu, hrise, ?_, hlook, by simp at hlen ⊢; omega, t1.trans t2⟩
      intro e he
      rcases List.mem_append.1 he with h1 | h1
      · exact hPd e (List.mem_append_left _ h1)
      · rcases List.mem_cons.1 h1 with rfl | h1
        · exact hp
        · exact hPd e (List.mem_append_right _ h1)
    have H13 : Hid (Calls Try.prog 13 #[.pointer (some ⟨r, 0, none⟩), .int .i64 p] w fun e w' => ∃ v', e = .returned (.bool (getB (lookD D) p)) ∧ RefIs w' B r (A ++ C) v' ∧ Turn (fun k => k = r) w w') := by
      have := rdrop B r D v p w h hBw hR (by omega)
      rw [hAC] at this
      exact this
    clear hx hRd hld hne hPd hlook hrise hAC h hR hP
    go_enter Try.func15, Try.ntmps15
    go_wp2_with fail
    refine (rpage _ _).mono ?_
    rintro e w1 ⟨rfl, rfl⟩
    rw [e1]
    go_wp2_with fail
    refine H13.out.mono ?_
    rintro e w2 ⟨v2, rfl, h2, ht2⟩
    have hBw2 : B ≤ w2.heap.size := Nat.le_trans hBw ht2.size
    obtain ⟨av, cv, rfl⟩ := h2.len
    obtain ⟨E, hE⟩ : ∃ E, E = A ++ C := ⟨_, rfl⟩
    have hEl : E.length = A.length + C.length := by rw [hE]; simp
    have HEE : Hid (E = A ++ C) := hE
    have HEL : Hid (E.length = A.length + C.length) := hEl
    rw [← hE] at h2 hlen
    have HB : Hid (∀ wx, Below w2.heap.size w2 wx → RefIs wx B r E (.slice av E.length cv)) := fun wx hb => h2.below hb
    have HPUT : Hid (∀ wx u L, Below w2.heap.size w2 wx → wx.ownsRow w2.heap.size 56 2 u L.length (flat L) → RefIs (wx.setCell ⟨r, 0, none⟩ u) B r L u ∧ Turn (fun k => k = r) w2 (wx.setCell ⟨r, 0, none⟩ u)) := fun wx u L hb hr => h2.put hb hBw2 hr
    have HT2 : Hid (Turn (fun k => k = r) w1 w2) := ht2
    have hc := h2.c0
    have hE9 : E.length < 90000 := by omega
    clear hE hEl H13 ht2 HW
    go_wp2
    go_loopw [7, 8] (fun s7 s8 wr => ∃ i : Nat, i ≤ E.length ∧ s8 = .int .i64 i ∧ wr.ownsRow w2.heap.size 56 2 s7 (insK A C p x i).length (flat (insK A C p x i)) ∧ Below w2.heap.size w2 wr) (fun _ s8 _ => E.length - (intOf s8).toNat)
    case atStart =>
      refine ⟨0, by omega, rfl, ?_, Below.refl _ _⟩
      have : insK A C p x 0 = [] := by simp [insK]
      rw [this]
      exact World.ownsRow_nil _ _ _ _
    case round =>
      clear hc
      obtain ⟨i, hil, rfl, hrow, hb⟩ := hrel
      have hr := HB.out _ hb
      have hc := hr.c0
      have hbs := hb.size
      have hll : (insK A C p x i).length ≤ i + 1 := insK_len
      by_cases hlt : i < E.length
      · obtain ⟨g, cap', hv, e0, e1⟩ := h2.at hlt
        injection hv with hv1 _ hv2
        subst hv1
        subst hv2
        obtain ⟨y, hy⟩ : ∃ y, y = E[i].1 := ⟨_, rfl⟩
        obtain ⟨z, hz⟩ : ∃ z, z = E[i].2 := ⟨_, rfl⟩
        have hEi : E[i] = (y, z) := by rw [hy, hz]
        rw [← hy] at e0
        rw [← hz] at e1
        have CC : Hid (∀ wx : World, Below w2.heap.size w2 wx → wx.cell? ⟨g, i * 2, none⟩ = some (.int .i64 y) ∧ wx.cell? ⟨g, i * 2 + 1, none⟩ = some (.int .u64 z)) := fun wx hb => ⟨cell_later hb e0, cell_later hb e1⟩
        obtain ⟨c0, c1⟩ := CC.out _ hb
        have hmem : (y, z) ∈ E := by rw [← hEi]; exact List.getElem_mem hlt
        have hAi : ∀ (hh : i < (A ++ C).length), (A ++ C)[i] = (y, z) := by
          intro hh
          have : E[i] = (A ++ C)[i] := by
            have hE := HEE.out
            subst hE
            rfl
          rw [← this]; exact hEi
        clear hy hz e0 e1 hr
        by_cases hiA : i < A.length
        · have hyp : y < p := by
            have h1 := hAi (by simp; omega)
            rw [List.getElem_append_left hiA] at h1
            have := hA _ (List.getElem_mem hiA)
            rw [h1] at this
            exact this
          have HI : Hid (insK A C p x (i + 1) = insK A C p x i ++ [(y, z)]) := by
            show _ = _
            rw [insK_low hiA, hAi]
          have q1 : decide ((p : Int) < (y : Int)) = false := decide_eq_false (by omega)
          have q1' : decide (p < y) = false := decide_eq_false (by omega)
          clear hmem hAi hEi h2
          go_wp2_with (at_builtin; refine wpList_append_own _ rfl _ _ 27 rfl w2.heap.size 56 i0 (.agg #[.int .i64 0, .int .u64 0]) 2 16 Try.underlying27 hi hz0 hz1 hz2 rfl (by decide) u7 _ _ rfl (hrow.alloc _) ⟨wr.heap.size, 0, none⟩ 1 1 [.int .i64 y, .int .u64 z] rfl rfl (cell_two_new _ _ _ _) (by simp [Value.oneCell']) (by unfold maxLen; omega) (by omega) (by simp; omega) ?_; intro v' w3 hown' hgrow _)
          have hg : (wr.alloc (.cells #[.int .i64 y, .int .u64 z] 56)).grownBy w3 u7.ownBlock := hgrow
          have hb3 : Below w2.heap.size w2 w3 := (hb.trans ((below_alloc _ _).mono hbs)).grown hg (by simp; omega) fun j ej => (hrow.lt j ej).1
          have hr3 : w3.ownsRow w2.heap.size 56 2 v' (insK A C p x (i + 1)).length (flat (insK A C p x (i + 1))) := by rw [HI.out]; exact own_snoc hown'
          exact ⟨⟨i + 1, by omega, by go_num, hr3, hb3⟩, by simp [intOf]; omega⟩
        · have hiC : i < A.length + C.length := by have := HEL.out; omega
          have hpy : p < y := by
            have h1 := hAi (by simp; omega)
            rw [List.getElem_append_right (by omega)] at h1
            have := hC _ (List.getElem_mem (show i - A.length < C.length by omega))
            rw [h1] at this
            exact this
          have q1 : decide ((p : Int) < (y : Int)) = true := decide_eq_true (by omega)
          have q1' : decide (p < y) = true := decide_eq_true (by omega)
          by_cases hie : i = A.length
          · have HI : Hid (insK A C p x (i + 1) = insK A C p x i ++ [(p, x)] ++ [(y, z)]) := by
              show _ = _
              subst hie
              rw [insK_mid (by omega), hAi]
            by_cases hi0 : i = 0
            · subst hi0
              clear hmem hAi hEi h2 hie
              go_wp2_with (first
                | (at_builtin; refine wpList_append_own _ rfl _ _ 27 rfl w2.heap.size 56 i0 (.agg #[.int .i64 0, .int .u64 0]) 2 16 Try.underlying27 hi hz0 hz1 hz2 rfl (by decide) u7 _ _ rfl (hrow.alloc _) ⟨wr.heap.size, 0, none⟩ 1 1 [.int .i64 p, .int .u64 x] rfl rfl (cell_two_new _ _ _ _) (by simp [Value.oneCell']) (by unfold maxLen; omega) (by omega) (by simp; omega) ?_; intro v3 w3 hown3 hgrow3 _; have hg3 : (wr.alloc (.cells #[.int .i64 p, .int .u64 x] 56)).grownBy w3 u7.ownBlock := hgrow3; have hb3 : Below w2.heap.size w2 w3 := (hb.trans ((below_alloc _ _).mono hbs)).grown hg3 (by simp; omega) fun j ej => (hrow.lt j ej).1; have hs3 := hb3.size; have hc3 := (HB.out _ hb3).c0; obtain ⟨f0, f1⟩ := CC.out _ hb3; clear hrow hgrow3 hg3)
                | (at_builtin; refine wpList_append_own _ rfl _ _ 27 rfl w2.heap.size 56 i0 (.agg #[.int .i64 0, .int .u64 0]) 2 16 Try.underlying27 hi hz0 hz1 hz2 rfl (by decide) v3 _ _ rfl (hown3.alloc _) ⟨w3.heap.size, 0, none⟩ 1 1 [.int .i64 y, .int .u64 z] rfl rfl (cell_two_new _ _ _ _) (by simp [Value.oneCell']) (by unfold maxLen; omega) (by omega) (by simp; omega) ?_; intro v4 w4 hown4 hgrow4 _))
              have hg4 : (w3.alloc (.cells #[.int .i64 y, .int .u64 z] 56)).grownBy w4 v3.ownBlock := hgrow4
              have hb4 : Below w2.heap.size w2 w4 := (hb3.trans ((below_alloc _ _).mono hs3)).grown hg4 (by simp; omega) fun j ej => (hown3.lt j ej).1
              have hr4 : w4.ownsRow w2.heap.size 56 2 v4 (insK A C p x (0 + 1)).length (flat (insK A C p x (0 + 1))) := by
                rw [HI.out]
                have h3 : w4.ownsRow w2.heap.size 56 2 v4 ((insK A C p x 0 ++ [(p, x)]).length + 1) (flat (insK A C p x 0 ++ [(p, x)]) ++ [.int .i64 y, .int .u64 z]) := by
                  rw [flat_snoc]
                  simpa [wdCells] using hown4
                exact own_snoc (e := (y, z)) h3
              exact ⟨⟨0 + 1, by omega, by go_num, hr4, hb4⟩, by simp [intOf]; omega⟩
            · obtain ⟨k, hki⟩ : ∃ k, k + 1 = i := ⟨i - 1, by omega⟩
              have hkE : k < E.length := by omega
              obtain ⟨g', cap'', hv', ez, -⟩ := h2.at hkE
              have h3 := congrArg Value.ownBlock hv'
              simp [Value.ownBlock] at h3
              subst h3
              obtain ⟨zz, hzz⟩ : ∃ zz, zz = E[k].1 := ⟨_, rfl⟩
              rw [← hzz] at ez
              have kk : (i : Int) - 1 = (k : Int) := by omega
              have qi : ((i : Int) == 0) = false := by simp; omega
              have hzp : zz < p := by
                have hE := HEE.out
                subst hE
                have hkA : k < A.length := by omega
                rw [hzz, List.getElem_append_left hkA]
                exact hA _ (List.getElem_mem hkA)
              have ez' := cell_later hb ez
              have q3 : decide ((zz : Int) < (p : Int)) = true := decide_eq_true (by omega)
              have q3' : decide (zz < p) = true := decide_eq_true (by omega)
              clear hmem hAi hEi h2 hie hv' ez hzz hki
              go_wp2_with (first
                | (at_builtin; refine wpList_append_own _ rfl _ _ 27 rfl w2.heap.size 56 i0 (.agg #[.int .i64 0, .int .u64 0]) 2 16 Try.underlying27 hi hz0 hz1 hz2 rfl (by decide) u7 _ _ rfl (hrow.alloc _) ⟨wr.heap.size, 0, none⟩ 1 1 [.int .i64 p, .int .u64 x] rfl rfl (cell_two_new _ _ _ _) (by simp [Value.oneCell']) (by unfold maxLen; omega) (by omega) (by simp; omega) ?_; intro v3 w3 hown3 hgrow3 _; have hg3 : (wr.alloc (.cells #[.int .i64 p, .int .u64 x] 56)).grownBy w3 u7.ownBlock := hgrow3; have hb3 : Below w2.heap.size w2 w3 := (hb.trans ((below_alloc _ _).mono hbs)).grown hg3 (by simp; omega) fun j ej => (hrow.lt j ej).1; have hs3 := hb3.size; have hc3 := (HB.out _ hb3).c0; obtain ⟨f0, f1⟩ := CC.out _ hb3; clear hrow hgrow3 hg3)
                | (at_builtin; refine wpList_append_own _ rfl _ _ 27 rfl w2.heap.size 56 i0 (.agg #[.int .i64 0, .int .u64 0]) 2 16 Try.underlying27 hi hz0 hz1 hz2 rfl (by decide) v3 _ _ rfl (hown3.alloc _) ⟨w3.heap.size, 0, none⟩ 1 1 [.int .i64 y, .int .u64 z] rfl rfl (cell_two_new _ _ _ _) (by simp [Value.oneCell']) (by unfold maxLen; omega) (by omega) (by simp; omega) ?_; intro v4 w4 hown4 hgrow4 _))
              have hg4 : (w3.alloc (.cells #[.int .i64 y, .int .u64 z] 56)).grownBy w4 v3.ownBlock := hgrow4
              have hb4 : Below w2.heap.size w2 w4 := (hb3.trans ((below_alloc _ _).mono hs3)).grown hg4 (by simp; omega) fun j ej => (hown3.lt j ej).1
              have hr4 : w4.ownsRow w2.heap.size 56 2 v4 (insK A C p x (i + 1)).length (flat (insK A C p x (i + 1))) := by
                rw [HI.out]
                have h3 : w4.ownsRow w2.heap.size 56 2 v4 ((insK A C p x i ++ [(p, x)]).length + 1) (flat (insK A C p x i ++ [(p, x)]) ++ [.int .i64 y, .int .u64 z]) := by
                  rw [flat_snoc]
                  simpa [wdCells] using hown4
                exact own_snoc (e := (y, z)) h3
              exact ⟨⟨i + 1, by omega, by go_num, hr4, hb4⟩, by simp [intOf]; omega⟩
          · have HI : Hid (insK A C p x (i + 1) = insK A C p x i ++ [(y, z)]) := by
              show _ = _
              rw [insK_high (by omega) hiC, hAi]
            obtain ⟨k, hki⟩ : ∃ k, k + 1 = i := ⟨i - 1, by omega⟩
            · have hkE : k < E.length := by omega
              obtain ⟨g', cap'', hv', ez, -⟩ := h2.at hkE
              have h3 := congrArg Value.ownBlock hv'
              simp [Value.ownBlock] at h3
              subst h3
              obtain ⟨zz, hzz⟩ : ∃ zz, zz = E[k].1 := ⟨_, rfl⟩
              rw [← hzz] at ez
              have kk : (i : Int) - 1 = (k : Int) := by omega
              have qi : ((i : Int) == 0) = false := by simp; omega
              have hzp : p < zz := by
                have hE := HEE.out
                subst hE
                rw [hzz, List.getElem_append_right (by omega)]
                exact hC _ (List.getElem_mem _)
              have ez' := cell_later hb ez
              have q3 : decide ((zz : Int) < (p : Int)) = false := decide_eq_false (by omega)
              have q3' : decide (zz < p) = false := decide_eq_false (by omega)
              clear hmem hAi hEi h2 hie hv' ez hzz hki
              go_wp2_with (at_builtin; refine wpList_append_own _ rfl _ _ 27 rfl w2.heap.size 56 i0 (.agg #[.int .i64 0, .int .u64 0]) 2 16 Try.underlying27 hi hz0 hz1 hz2 rfl (by decide) u7 _ _ rfl (hrow.alloc _) ⟨wr.heap.size, 0, none⟩ 1 1 [.int .i64 y, .int .u64 z] rfl rfl (cell_two_new _ _ _ _) (by simp [Value.oneCell']) (by unfold maxLen; omega) (by omega) (by simp; omega) ?_; intro v' w3 hown' hgrow _)
              have hg : (wr.alloc (.cells #[.int .i64 y, .int .u64 z] 56)).grownBy w3 u7.ownBlock := hgrow
              have hb3 : Below w2.heap.size w2 w3 := (hb.trans ((below_alloc _ _).mono hbs)).grown hg (by simp; omega) fun j ej => (hrow.lt j ej).1
              have hr3 : w3.ownsRow w2.heap.size 56 2 v' (insK A C p x (i + 1)).length (flat (insK A C p x (i + 1))) := by rw [HI.out]; exact own_snoc hown'
              exact ⟨⟨i + 1, by omega, by go_num, hr3, hb3⟩, by simp [intOf]; omega⟩
      · have hiE : i = E.length := by omega
        subst hiE
        have hfr := hr.h.frozen 0
        by_cases hC0 : C.length = 0
        · have HI : Hid (insK A C p x E.length = A) := by
            show _ = _
            unfold insK
            rw [if_pos (by have := HEL.out; omega), List.take_of_length_le (by have := HEL.out; omega)]
          have hCn : C = [] := List.eq_nil_of_length_eq_zero hC0
          rw [HI.out] at hrow hll
          obtain ⟨al, cl, hal, -⟩ := own_form hrow
          have hlq : ((A.length : Int) == (E.length : Int)) = true := by have := HEL.out; simp; omega
          have hA9 : A.length < 90000 := by have := HEL.out; omega
          subst hal
          clear h2
          go_wp2_with (at_builtin; refine wpList_append_own _ rfl _ _ 27 rfl w2.heap.size 56 i0 (.agg #[.int .i64 0, .int .u64 0]) 2 16 Try.underlying27 hi hz0 hz1 hz2 rfl (by decide) (.slice al A.length cl) _ _ rfl (hrow.alloc _) ⟨wr.heap.size, 0, none⟩ 1 1 [.int .i64 p, .int .u64 x] rfl rfl (cell_two_new _ _ _ _) (by simp [Value.oneCell']) (by unfold maxLen; omega) (by omega) (by simp; omega) ?_; intro v' w3 hown' hgrow _; obtain ⟨a4, c4, rfl⟩ := ownsRow_succ hown'; have hg : (wr.alloc (.cells #[.int .i64 p, .int .u64 x] 56)).grownBy w3 (Value.slice al A.length cl).ownBlock := hgrow; have hb3 : Below w2.heap.size w2 w3 := (hb.trans ((below_alloc _ _).mono hbs)).grown hg (by simp; omega) fun j ej => (hrow.lt j ej).1; have hr3 : w3.ownsRow w2.heap.size 56 2 (.slice (some ⟨a4, 0, none⟩) (A.length + 1) c4) (A ++ [(p, x)]).length (flat (A ++ [(p, x)])) := own_snoc hown'; have hc3 := (HB.out _ hb3).c0; have hf3 := (HB.out _ hb3).h.frozen 0; clear hrow hgrow hg)
          go_ret
          obtain ⟨z1, z2⟩ := HPUT.out _ _ _ hb3 hr3
          obtain ⟨v', D', f1, f2, f3, f4, f5, f6⟩ := HF.out _ _ ⟨_, HT2.out, z2⟩ (by rw [hCn]; exact z1)
          exact ⟨v', D', by rw [HE.out]; rfl, f1, f2, f3, f4, f5, f6⟩
        · have HI : Hid (insK A C p x E.length = A ++ (p, x) :: C) := by
            show _ = _
            unfold insK
            rw [if_neg (by have := HEL.out; omega), List.take_of_length_le (by have := HEL.out; omega)]
          rw [HI.out] at hrow hll
          obtain ⟨al, cl, hal, -⟩ := own_form hrow
          obtain ⟨M, hM⟩ : ∃ M, M = (A ++ (p, x) :: C).length := ⟨_, rfl⟩
          have hMl : M = E.length + 1 := by rw [hM]; have := HEL.out; simp; omega
          have hlq : ((M : Int) == (E.length : Int)) = false := by simp; omega
          rw [← hM] at hal
          subst hal
          obtain ⟨z1, z2⟩ := HPUT.out _ _ _ hb hrow
          have Z1 : Hid (RefIs (wr.setCell ⟨r, 0, none⟩ (.slice al M cl)) B r (A ++ (p, x) :: C) (.slice al M cl)) := z1
          have Z2 : Hid (Turn (fun k => k = r) w2 (wr.setCell ⟨r, 0, none⟩ (.slice al M cl))) := z2
          clear h2 z1 z2 hrow hM hMl hll
          go_wp2
          go_ret
          obtain ⟨v', D', f1, f2, f3, f4, f5, f6⟩ := HF.out _ _ ⟨_, HT2.out, Z2.out⟩ Z1.out
          exact ⟨v', D', by rw [HE.out]; rfl, f1, f2, f3, f4, f5, f6⟩
end Go.Proofs.Ytaecacbapeogdaa
