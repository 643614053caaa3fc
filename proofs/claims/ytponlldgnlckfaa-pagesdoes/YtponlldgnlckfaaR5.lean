/-
  The contract of the document's Make.
-/
import Derived.Test.YtponlldgnlckfaaR4
import Derived.Deep.RegionLaw
namespace Go.Proofs.Ytponlldgnlckfaa
open Go.RowKit

/-- append to a row of its own, as one step of a region that draws. -/
theorem step_append_own {P : Program} {ops : Array Oper} {o : Oper} {a : Act} {w : World} {K : Act → World → Prop} {Q : Exit → Act → World → Prop} {E : Prop}
    (hg : o.guard = none) (s x : Operand) (t : TypeId) (hop : o.op = Op.call { callee := Callee.builtin Builtin.append, args := #[s, x], argTypes := #[t, t] })
    (B : Nat) (e : TypeId) (z : Value) (size bytes : Nat) (h1 : P.underlying t = some (.slice e)) (h2 : (P.info? e).map (fun i => (i.zero, i.size, i.bytes)) = some (some z, size, bytes)) (h6 : z.cells.size = size) (h7 : 0 < size)
    (v : Value) (n : Nat) (xs : List Value) (hs : a.eval s = v) (hown : w.ownsRow B e size v n xs)
    (ad : Addr) (m c : Nat) (news : List Value) (hx : a.eval x = .slice (some ad) m c) (hn : news.length = m * size) (hc : ∀ j u, news[j]? = some u → w.cell? (ad.add j) = some u) (h1c : ∀ u ∈ news, u.oneCell' = true)
    (b1 : n + m ≤ maxLen) (b2 : (n + m) * bytes ≤ 140737488355328) (hB : B ≤ w.heap.size)
    (hK : ∀ a' c' w', w'.ownsRow B e size (.slice a' (n + m) c') (n + m) (xs ++ news) → w.grownBy w' v.ownBlock → K (a.put o.dst (.slice a' (n + m) c')) w') :
    if Region.wanted o (yielded ops a.tmps) = true then Oper.wp P o a w K Q else E := by
  have hw : Region.wanted o (yielded ops a.tmps) = true := by simp [Region.wanted, hg]
  rw [if_pos hw]
  obtain ⟨i, hi, hz0, hz1, hz2⟩ := info_parts h2
  obtain ⟨v', w', hrun, r1, r2, _⟩ := run_append_own (P := P) w B t o.type e i z size bytes h1 hi hz0 hz1 hz2 h6 h7 v n xs hown ad m c news hn hc h1c b1 b2 hB
  obtain ⟨a', cap, rfl, -⟩ := own_form r1
  unfold Oper.wp
  simp [execOp, hop, resolve, invoke, builtin, hs, hx, hrun, Result.andThen]
  exact hK a' cap w' r1 r2

/-- The table before its row grows, with the head's slice named. -/
structure RefOp (B : Nat) (w : World) (r : Nat) (a : Option Addr) (cap : Nat) (L : List Pg) : Prop where
  row : RowAt w r 32 [.slice a L.length cap]
  own : w.ownsRow B 68 10 (.slice a L.length cap) L.length (flatN L)
  lo : B ≤ r
theorem RefIs.op {B : Nat} {w : World} {r : Nat} {L : List Pg} (h : RefIs B w r L) : ∃ a cap, RefOp B w r a cap L := by
  obtain ⟨a, cap, -, -, hown, hrow⟩ := h.open
  exact ⟨a, cap, hrow, hown, h.lo⟩
/-- The row grown, and put in the elder one's place. -/
theorem RefOp.grow {B : Nat} {w w1 w2 : World} {r : Nat} {a : Option Addr} {cap : Nat} {L : List Pg} {y : Pg} (h : RefOp B w r a cap L) (hb : Below w.heap.size w w1)
    {a' : Option Addr} {c' : Nat} (ho : w2.ownsRow B 68 10 (.slice a' (L.length + 1) c') (L.length + 1) (flatN L ++ nc y)) (hg : w1.grownBy w2 (Value.slice a L.length cap).ownBlock) :
    w2.cell? ⟨r, 0, none⟩ = some (.slice a L.length cap) ∧ w2.frozen? ⟨r, 0, none⟩ = false ∧ RefIs B (w2.setCell ⟨r, 0, none⟩ (.slice a' (L.length + 1) c')) r (L ++ [y]) ∧
      (B ≤ w.heap.size → Below B w (w2.setCell ⟨r, 0, none⟩ (.slice a' (L.length + 1) c'))) ∧ Kp pob w (w2.setCell ⟨r, 0, none⟩ (.slice a' (L.length + 1) c')) ∧ (w2.setCell ⟨r, 0, none⟩ (.slice a' (L.length + 1) c')).cell? ⟨r, 0, none⟩ = some (.slice a' (L.length + 1) c') := by
  have hrow1 := h.row.below hb h.row.lt
  have hown1 := own_below h.own hb
  have hne : (Value.slice a L.length cap).ownBlock ≠ some r := by
    intro he
    rcases hown1.2 with ⟨h2, -⟩ | ⟨g, cp, cur, h2, -, hgg, -⟩
    · rw [h2] at he; cases he
    · rw [h2] at he
      simp only [Value.ownBlock, Option.some.injEq] at he
      subst he
      unfold RowAt at hrow1
      rw [hrow1] at hgg
      injection hgg with h3
      injection h3 with _ h3
      cases h3
  have hrow2 : RowAt w2 r 32 [.slice a L.length cap] := by
    unfold RowAt
    rw [hg.block r hrow1.lt (fun e => hne e.symm)]
    exact hrow1
  have hfl : flatN L ++ nc y = flatN (L ++ [y]) := by rw [flatN_append]; simp [flatN]
  rw [hfl] at ho
  have hr2 := hrow2.set 0 (.slice a' (L.length + 1) c')
  have hne2 : ∀ g, (Value.slice a' (L.length + 1) c').ownBlock = some g → g ≠ r := by
    intro g hgk e
    subst e
    rcases ho.2 with ⟨h2, -⟩ | ⟨g', cp, cur, h2, -, hgg, -⟩
    · rw [h2] at hgk; cases hgk
    · rw [h2] at hgk
      simp only [Value.ownBlock, Option.some.injEq] at hgk
      subst hgk
      unfold RowAt at hrow2
      rw [hrow2] at hgg
      injection hgg with h3
      injection h3 with _ h3
      cases h3
  have ho2 : (w2.setCell ⟨r, 0, none⟩ (.slice a' (L.length + 1) c')).ownsRow B 68 10 (.slice a' (L.length + 1) c') (L.length + 1) (flatN (L ++ [y])) := by
    refine own_turn ho fun k cur hk hc => ?_
    rw [heap_setCell_other w2 _ k _ ?_]
    · exact hc
    · intro e
      have e2 : k = r := e
      subst e2
      unfold RowAt at hrow2
      rw [hrow2] at hc
      injection hc with h3
      injection h3 with _ h3
      cases h3
  have k1 : Kp pob w w2 := (Kp.ofBelow hb).trans (kp_grown hown1 hg fun _ => rfl)
  refine ⟨by rw [hrow2.cell]; rfl, hrow2.frozen 0, ⟨⟨_, by simpa using hr2, by simpa using ho2⟩, h.lo⟩, fun hs => ?_, k1.trans (kp_set hrow2 rfl _ _), by rw [hr2.cell]; rfl⟩
  exact ((hb.mono hs).grown hg (Nat.le_trans hs hb.size) fun g e => (hown1.lt g e).1).setCell (p := ⟨r, 0, none⟩) h.lo _

theorem make_no {L : List Pg} {f i : Int} (h : 0 ≤ ofL L f i) (o : Int) : makeL L f i o = L ∧ makeR L f i = -1 ∧ makeE L f i = 4 := by
  have hb : busyL L f i = true := by simp [busyL, h]
  simp [makeL, makeR, makeE, hb]
theorem make_yes {L : List Pg} {f i : Int} (h : ¬ 0 ≤ ofL L f i) (o : Int) : makeL L f i o = L ++ [newPg L.length f i o] ∧ makeR L f i = L.length ∧ makeE L f i = 0 := by
  have hb : busyL L f i = false := by simp [busyL]; omega
  simp [makeL, makeR, makeE, hb]

set_option maxRecDepth 100000 in
set_option maxHeartbeats 4000000 in
theorem rmake (B r : Nat) (L : List Pg) (f i o : Int) (w : World) (h : RefIs B w r L) (hL : L.length < 1000000) (hBs : B ≤ w.heap.size) :
    Calls Try.prog 13 #[.pointer (some ⟨r, 0, none⟩), .agg #[.int .i64 f, .int .i64 i], .int .i64 o] w fun e w' => e = .returned (.tuple #[.int .i64 (makeR L f i), .int .i64 (makeE L f i)]) ∧ RefIs B w' r (makeL L f i o) ∧ Below B w w' ∧ Kp pob w w' := by
  have hb0 := below_alloc w (.cells #[.int .i64 f, .int .i64 i] 24)
  have hrow0 := RowAt.new w #[.int .i64 f, .int .i64 i] 24
  have h0 := h.below hb0
  have HOF := hid (rof B r L f i _ h0 hL)
  obtain ⟨w0, hw0⟩ : ∃ w0, w0 = w.alloc (.cells #[.int .i64 f, .int .i64 i] 24) := ⟨_, rfl⟩
  rw [← hw0] at hb0 hrow0 h0 HOF
  have q0 : w0.cell? ⟨w.heap.size, 0, none⟩ = some (.int .i64 f) := by rw [hrow0.cell]; rfl
  have q1 : w0.cell? ⟨w.heap.size, 1, none⟩ = some (.int .i64 i) := by rw [hrow0.cell]; rfl
  have HW := hid hw0
  have H0 := hid h0
  have HB0 := hid hb0
  have HR0 := hid hrow0
  have HBS := hid hBs
  obtain ⟨t, ht⟩ : ∃ t, t = ofL L f i := ⟨_, rfl⟩
  rw [← ht] at HOF
  by_cases hc : 0 ≤ t
  · have hm := make_no (f := f) (i := i) (by rw [← ht]; exact hc) o
    have HM := hid hm
    have d1 : decide (0 ≤ t) = true := decide_eq_true hc
    clear hw0 hb0 hrow0 h0 h hm ht hc hBs
    go_enter Try.func13, Try.ntmps13
    go_wp2_with fail
    rw [← HW.out]
    refine HOF.out.mono ?_
    rintro e w1 ⟨rfl, hb1⟩
    have HB1 := hid (bel_trans HB0.out hb1 (Nat.le_refl _))
    have HR1 := hid (H0.out.below hb1)
    clear hb1
    go_wp2_with fail
    go_ret2
    obtain ⟨m1, m2, m3⟩ := HM.out
    exact ⟨by rw [m2, m3]; rfl, by rw [m1]; exact HR1.out, HB1.out.mono HBS.out, Kp.ofBelow HB1.out⟩
  · have hm := make_yes (f := f) (i := i) (by rw [← ht]; exact hc) o
    have HM := hid hm
    have d1 : decide (0 ≤ t) = false := decide_eq_false hc
    by_cases hf : f < 0
    · have d2 : decide (f < 0) = true := decide_eq_true hf
      have HN : Hid (newPg L.length f i o = ⟨-1, (L.length : Int), 0, 0, o, 0, false, false⟩) := by show _ = _; unfold newPg; rw [if_neg (by omega)]
      clear hw0 hb0 hrow0 h0 h hm ht hc hBs hf
      go_enter Try.func13, Try.ntmps13
      go_wp2_with fail
      rw [← HW.out]
      refine HOF.out.mono ?_
      rintro e w1 ⟨rfl, hb1⟩
      have HB1 := hid (bel_trans HB0.out hb1 (Nat.le_refl _))
      have hbox := HR0.out.below hb1 HR0.out.lt
      have hr1 := H0.out.below hb1
      have c0 := cell_later hb1 q0
      have c1 := cell_later hb1 q1
      have fz0 := hbox.frozen 0
      have fz1 := hbox.frozen 1
      have HBX1 := hid hbox
      have HR1 := hid hr1
      have hcell1 : ∃ a cap, w1.cell? ⟨r, 0, none⟩ = some (.slice a L.length cap) := by
        obtain ⟨a, cap, hop⟩ := hr1.op
        exact ⟨a, cap, by rw [hop.row.cell]; rfl⟩
      obtain ⟨a1, cap1, hcell1⟩ := hcell1
      clear hb1 hr1 q0 q1 HW HOF H0 HB0 HR0 hbox
      go_wp2_with fail
      obtain ⟨w3, hw3⟩ : ∃ w3, w3 = (w1.setCell ⟨w.heap.size, 0, none⟩ (.int .i64 (-1))).setCell ⟨w.heap.size, 1, none⟩ (.int .i64 (L.length : Int)) := ⟨_, rfl⟩
      rw [← hw3]
      have hbx3 : RowAt w3 w.heap.size 24 [.int .i64 (-1), .int .i64 (L.length : Int)] := by rw [hw3]; exact (HBX1.out.set 0 _).set 1 _
      have hk3 : Kp dob w1 w3 := by rw [hw3]; exact (kp_set HBX1.out rfl _ _).trans (kp_set (HBX1.out.set 0 _) rfl _ _)
      have hb3 : Below w.heap.size w w3 := by rw [hw3]; exact (HB1.out.setCell (p := ⟨w.heap.size, 0, none⟩) (Nat.le_refl _) _).setCell (p := ⟨w.heap.size, 1, none⟩) (Nat.le_refl _) _
      have hr3 := HR1.out.kp hk3
      clear c0 c1 fz0 fz1 hcell1 hw3 hk3 HBX1 HR1 HB1
      have c0 : w3.cell? ⟨w.heap.size, 0, none⟩ = some (.int .i64 (-1)) := by rw [hbx3.cell]; rfl
      have c1 : w3.cell? ⟨w.heap.size, 1, none⟩ = some (.int .i64 (L.length : Int)) := by rw [hbx3.cell]; rfl
      obtain ⟨a, cap, hop⟩ := hr3.op
      have hcell : w3.cell? ⟨r, 0, none⟩ = some (.slice a L.length cap) := by rw [hop.row.cell]; rfl
      have HOP := hid hop
      have HB1 := hid hb3
      have HBX := hid (below_drawn (below_alloc w3 (.cells #[.int .i64 (-1), .int .i64 (L.length : Int), .int .i64 0, .int .i64 0, .int .i64 o, .int .i64 0, .int .i64 0, .bool false, .bool false, .bool false] 68)) 1)
      have HOWN := hid (own_below hop.own HBX.out)
      have HNEW : Hid (∀ j u, (nc ⟨-1, (L.length : Int), 0, 0, o, 0, false, false⟩)[j]? = some u → (w3.alloc (.cells #[.int .i64 (-1), .int .i64 (L.length : Int), .int .i64 0, .int .i64 0, .int .i64 o, .int .i64 0, .int .i64 0, .bool false, .bool false, .bool false] 68)).drew.cell? ((⟨w3.heap.size, 0, none⟩ : Addr).add j) = some u) := by
        intro j u hu
        have hnew := (RowAt.new w3 #[.int .i64 (-1), .int .i64 (L.length : Int), .int .i64 0, .int .i64 0, .int .i64 o, .int .i64 0, .int .i64 0, .bool false, .bool false, .bool false] 68).cell j
        rw [Addr.add_mid, Nat.zero_add]
        exact hnew.trans hu
      have HS1 : Hid (B ≤ w3.heap.size) := by have := HB1.out.size; have := HBS.out; show _ ≤ _; omega
      have hs1 := HS1.out
      have hcx : (w3.alloc (.cells #[.int .i64 (-1), .int .i64 (L.length : Int), .int .i64 0, .int .i64 0, .int .i64 o, .int .i64 0, .int .i64 0, .bool false, .bool false, .bool false] 68)).cell? ⟨r, 0, none⟩ = some (.slice a L.length cap) := cell_later (below_alloc _ _) hcell
      clear hr3 hop hb3 hbx3
      go_region_law (refine step_append_own rfl (.tmp 25) (.tmp 30) 30 rfl B 68 _ 10 72 Try.underlying30 info68 rfl (by decide) (.slice a L.length cap) L.length _ rfl HOWN.out ⟨w3.heap.size, 0, none⟩ 1 1 (nc ⟨-1, (L.length : Int), 0, 0, o, 0, false, false⟩) rfl rfl HNEW.out (by simp [nc, Value.oneCell']) (by unfold maxLen; omega) (by omega) (by simp; omega) ?_; intro a' c' w2 ho hg; obtain ⟨g1, g2, g3, g4, g5, g6⟩ := HOP.out.grow HBX.out ho hg; clear ho hg)
      all_goals
        have HG := hid (And.intro g3 (And.intro (g4 hs1) g5))
        clear g1 g2 g3 g4 g5 hcell hcx
        go_wp2_with fail
        go_ret2
        obtain ⟨m1, m2, m3⟩ := HM.out
        obtain ⟨g3, g4, g5⟩ := HG.out
        exact ⟨by rw [m2, m3]; rfl, by rw [m1, HN.out]; exact g3, (HB1.out.mono HBS.out).trans g4, (Kp.ofBelow HB1.out).trans g5⟩
    · have d2 : decide (f < 0) = false := decide_eq_false hf
      have HN : Hid (newPg L.length f i o = ⟨f, i, 0, 0, o, 0, false, false⟩) := by show _ = _; unfold newPg; rw [if_pos (by omega)]
      clear hw0 hb0 hrow0 h0 h hm ht hc hBs hf
      go_enter Try.func13, Try.ntmps13
      go_wp2_with fail
      rw [← HW.out]
      refine HOF.out.mono ?_
      rintro e w1 ⟨rfl, hb1⟩
      have HB1 := hid (bel_trans HB0.out hb1 (Nat.le_refl _))
      have hr1 := H0.out.below hb1
      have c0 := cell_later hb1 q0
      have c1 := cell_later hb1 q1
      obtain ⟨a, cap, hop⟩ := hr1.op
      have hcell : w1.cell? ⟨r, 0, none⟩ = some (.slice a L.length cap) := by rw [hop.row.cell]; rfl
      have HOP := hid hop
      have HBX := hid (below_drawn (below_alloc w1 (.cells #[.int .i64 f, .int .i64 i, .int .i64 0, .int .i64 0, .int .i64 o, .int .i64 0, .int .i64 0, .bool false, .bool false, .bool false] 68)) 1)
      have HOWN := hid (own_below hop.own HBX.out)
      have HNEW : Hid (∀ j u, (nc ⟨f, i, 0, 0, o, 0, false, false⟩)[j]? = some u → (w1.alloc (.cells #[.int .i64 f, .int .i64 i, .int .i64 0, .int .i64 0, .int .i64 o, .int .i64 0, .int .i64 0, .bool false, .bool false, .bool false] 68)).drew.cell? ((⟨w1.heap.size, 0, none⟩ : Addr).add j) = some u) := by
        intro j u hu
        have hnew := (RowAt.new w1 #[.int .i64 f, .int .i64 i, .int .i64 0, .int .i64 0, .int .i64 o, .int .i64 0, .int .i64 0, .bool false, .bool false, .bool false] 68).cell j
        rw [Addr.add_mid, Nat.zero_add]
        exact hnew.trans hu
      have HS1 : Hid (B ≤ w1.heap.size) := by have := HB1.out.size; have := HBS.out; show _ ≤ _; omega
      have hs1 := HS1.out
      have hcx : (w1.alloc (.cells #[.int .i64 f, .int .i64 i, .int .i64 0, .int .i64 0, .int .i64 o, .int .i64 0, .int .i64 0, .bool false, .bool false, .bool false] 68)).cell? ⟨r, 0, none⟩ = some (.slice a L.length cap) := cell_later (below_alloc _ _) hcell
      clear hb1 hr1 q0 q1 hop HW HOF H0 HB0 HR0
      go_wp2_with fail
      go_region_law (refine step_append_own rfl (.tmp 25) (.tmp 30) 30 rfl B 68 _ 10 72 Try.underlying30 info68 rfl (by decide) (.slice a L.length cap) L.length _ rfl HOWN.out ⟨w1.heap.size, 0, none⟩ 1 1 (nc ⟨f, i, 0, 0, o, 0, false, false⟩) rfl rfl HNEW.out (by simp [nc, Value.oneCell']) (by unfold maxLen; omega) (by omega) (by simp; omega) ?_; intro a' c' w2 ho hg; obtain ⟨g1, g2, g3, g4, g5, g6⟩ := HOP.out.grow HBX.out ho hg; clear ho hg)
      all_goals
        have HG := hid (And.intro g3 (And.intro (g4 hs1) g5))
        clear g1 g2 g3 g4 g5 hcell hcx
        go_wp2_with fail
        go_ret2
        obtain ⟨m1, m2, m3⟩ := HM.out
        obtain ⟨g3, g4, g5⟩ := HG.out
        exact ⟨by rw [m2, m3]; rfl, by rw [m1, HN.out]; exact g3, (HB1.out.mono HBS.out).trans g4, (Kp.ofBelow HB1.out).trans g5⟩
end Go.Proofs.Ytponlldgnlckfaa
