/-
  The contracts of Add and Remove.
-/
import Derived.Test.YtbceadnhfihlfaaP7
namespace Go.Proofs.Ytbceadnhfihlfaa
open Go.RowKit

theorem ty_grown {C : TypeId → Bool} {w w' : World} {B e c n : Nat} {v : Value} {xs : List Value} (hown : w.ownsRow B e c v n xs) (hg : w.grownBy w' v.ownBlock) (hC : C e = true) : Ty C w w' := by
  refine ⟨hg.os, hg.tape, hg.output, hg.size, fun k cur t ht hk => ?_⟩
  rw [hg.block k (lt_of_block hk) ?_]
  · exact hk
  · intro he
    rcases hown.2 with ⟨rfl, -⟩ | ⟨g, cap, cur', rfl, -, hgg, -⟩
    · cases he
    · simp only [Value.ownBlock, Option.some.injEq] at he
      subst he
      rw [hk] at hgg
      injection hgg with h1
      injection h1 with h2 h3
      subst h3
      rw [hC] at ht
      cases ht
theorem ty_set {C : TypeId → Bool} {w : World} {b i : Nat} {t : TypeId} {vs : List Value} (h : RowAt w b t vs) (hC : C t = true) (v : Value) : Ty C w (w.setCell ⟨b, i, none⟩ v) := by
  refine ⟨rfl, rfl, rfl, by simp, fun k cur T hT hk => ?_⟩
  rw [heap_setCell_other w _ k v ?_]
  · exact hk
  · intro e
    have h' : w.heap[k]? = some (.cells vs.toArray t (0, 0)) := by rw [show k = b from e]; exact h
    rw [h'] at hk
    injection hk with h1
    injection h1 with h2 h3
    subst h3
    rw [hC] at hT
    cases hT

theorem Ty.mono {C D : TypeId → Bool} {w w' : World} (h : Ty C w w') (hd : ∀ t, D t = false → C t = false) : Ty D w w' := ⟨h.os, h.tape, h.output, h.size, fun k cur t ht hk => h.block k cur t (hd t ht) hk⟩
/-- The types of the program's tree. -/
def pt (t : TypeId) : Bool := t == 51 || t == 48
theorem info48 : (Try.prog.info? 48).map (fun i => (i.zero, i.size, i.bytes)) = some (some (.agg #[.int .i64 0, .bool false]), 2, 16) := by kernel_rfl

/-- One group appended to the row of groups. -/
theorem app_group {ops : Array Oper} {rest : List Oper} {o : Oper} {a : Act} {Q : Exit → Act → World → Prop} (B : Nat) (G : Gr) (wr : World) (hgd : o.guard = none) (s x : Operand)
    (ho : o.op = .call { callee := .builtin .append, args := #[s, x], argTypes := #[49, 49] }) (v : Value) (hs : a.eval s = v) (hown : wr.ownsRow B 48 2 v G.length (gc G))
    (p : Int) (hx : a.eval x = .slice (some ⟨wr.heap.size, 0, none⟩) 1 1) (hl : G.length ≤ 1000000) (hb : B ≤ wr.heap.size)
    (hK : ∀ v' w3, w3.ownsRow B 48 2 v' (G.length + 1) (gc (G ++ [(p, true)])) → Below B wr w3 → Ty (fun T => T == 48) wr w3 → wpList Try.prog ops Q rest (a.put o.dst v') w3) :
    wpList Try.prog ops Q (o :: rest) a (wr.alloc (.cells #[.int .i64 p, .bool true] 48)) := by
  obtain ⟨i0, hi, hz0, hz1, hz2⟩ := info_parts info48
  refine wpList_append_own _ hgd s x 49 ho B 48 i0 _ 2 16 Try.underlying49 hi hz0 hz1 hz2 rfl (by decide) v _ _ hs (hown.alloc _) ⟨wr.heap.size, 0, none⟩ 1 1 [.int .i64 p, .bool true] hx rfl ?_ (by simp [Value.oneCell']) (by unfold maxLen; omega) (by omega) (by simp; omega) ?_
  · intro j u hu
    have := RowAt.cell (RowAt.new wr #[.int .i64 p, .bool true] 48) j
    rw [hu] at this
    rw [WideShapes.add_plain]
    simpa using this
  · intro v' w' hown' hgrow _
    refine hK v' w' ?_ ?_ ?_
    · rw [gc_snoc]
      simpa [gp] using hown'
    · exact ((below_alloc wr _).mono hb).grown hgrow (by simp; omega) fun j ej => (hown.lt j ej).1
    · exact (Ty.ofBelow (below_alloc wr _)).trans (ty_grown (hown.alloc _) hgrow rfl)

theorem addG_dead {G : Gr} {p : Int} (h : lv G p = false) : addG G p = G ∧ addN G p = -1 ∧ addE G p = 2 := by simp [addG, addN, addE, h]
theorem addG_deep {G : Gr} {p : Int} (h : lv G p = true) (hd : ¬ dep G p < 7) : addG G p = G ∧ addN G p = -1 ∧ addE G p = 21 := by simp [addG, addN, addE, h, hd]
theorem addG_full {G : Gr} {p : Int} (h : lv G p = true) (hd : dep G p < 7) (hl : ¬ G.length < 64) : addG G p = G ∧ addN G p = -1 ∧ addE G p = 3 := by simp [addG, addN, addE, h, hd, hl]
theorem addG_ok {G : Gr} {p : Int} (h : lv G p = true) (hd : dep G p < 7) (hl : G.length < 64) : addG G p = G ++ [(p, true)] ∧ addN G p = G.length ∧ addE G p = 0 := by simp [addG, addN, addE, h, hd, hl]

set_option maxHeartbeats 4000000 in
theorem padd (B t : Nat) (G : Gr) (p : Int) (w : World) (hT : TreeIs B w t G) :
    Calls Try.prog 13 #[.pointer (some ⟨t, 0, none⟩), .int .i64 p] w fun e w' => e = .returned (.tuple #[.int .i64 (addN G p), .int .i64 (addE G p)]) ∧ TreeIs B w' t (addG G p) ∧ Below B w w' ∧ Ty pt w w' := by
  have HL : Hid (Calls Try.prog 16 #[.pointer (some ⟨t, 0, none⟩), .int .i64 p] w fun e w' => e = .returned (.bool (lv G p)) ∧ w' = w) := plive B t G p w hT
  have hBw : B ≤ w.heap.size := Nat.le_trans hT.lo (Nat.le_of_lt hT.lt)
  cases hl : lv G p with
  | false =>
    obtain ⟨e1, e2, e3⟩ := addG_dead hl
    rw [hl] at HL
    rw [e1, e2, e3]
    have HT : Hid (TreeIs B w t G) := hT
    clear e1 e2 e3 hT hl
    go_enter Try.func13, Try.ntmps13
    go_wp2_with fail
    refine HL.out.mono ?_
    rintro e w1 ⟨rfl, rfl⟩
    go_wp2
    go_ret2
    exact ⟨rfl, HT.out, Below.refl _ _, Ty.refl _ _⟩
  | true =>
    rw [hl] at HL
    have HD : Hid (Calls Try.prog 20 #[.pointer (some ⟨t, 0, none⟩), .int .i64 p] w fun e w' => e = .returned (.int .i64 (dep G p)) ∧ Below w.heap.size w w') := pdepth B t G p w hT
    by_cases hd : dep G p < 7
    · have HN : Hid (∀ w, TreeIs B w t G → Calls Try.prog 15 #[.pointer (some ⟨t, 0, none⟩)] w fun e w' => e = .returned (.int .i64 G.length) ∧ w' = w) := fun w h => plen B t G w h
      by_cases hf : G.length < 64
      · obtain ⟨e1, e2, e3⟩ := addG_ok hl hd hf
        have HO : Hid (Ok (G ++ [(p, true)])) := ok_snoc hT.ok hl hd hf
        rw [e1, e2, e3]
        clear e1 e2 e3 hl
        obtain ⟨d, hdd⟩ : ∃ d, d = dep G p := ⟨_, rfl⟩
        rw [← hdd] at HD hd
        clear hdd
        have qd : decide (7 ≤ d) = false := by simp; omega
        have qf : decide (64 ≤ (G.length : Int)) = false := by simp; omega
        go_enter Try.func13, Try.ntmps13
        go_wp2_with fail
        refine HL.out.mono ?_
        rintro e w1 ⟨rfl, rfl⟩
        go_wp2_with fail
        refine HD.out.mono ?_
        rintro e w2 ⟨rfl, hb2⟩
        have hT2 := hT.below hb2
        have hB2 := hb2.size
        have HB2 : Hid (Below w1.heap.size w1 w2) := hb2
        clear hb2 hT
        go_wp2_with fail
        refine (HN.out _ hT2).mono ?_
        rintro e w3 ⟨rfl, rfl⟩
        obtain ⟨v, hrow, hown⟩ := hT2.h
        have hlo := hT2.lo
        have htl := hT2.lt
        have hcell : w3.cell? ⟨t, 0, none⟩ = some v := by rw [hrow.cell]; rfl
        clear hT2
        go_wp2_with (at_builtin; refine app_group B G w3 rfl _ _ rfl v rfl hown p rfl (by omega) (by omega) ?_; intro v' w5 hown' hb5 hty5; obtain ⟨a', cap', rfl, -⟩ := own_form hown'; have hrow5 := hrow.ty hty5 rfl; have hcell5 := hrow5.cell 0; have hfr5 := hrow5.frozen 0)
        have HTn : Hid (TreeIs B (w5.setCell ⟨t, 0, none⟩ (.slice a' (G.length + 1) cap')) t (G ++ [(p, true)])) := ⟨⟨_, hrow5.set 0 _, by simpa using own_ty hown' (ty_set (C := fun T => T == 51) hrow5 rfl _) rfl⟩, hlo, HO.out⟩
        have HBn : Hid (Below B w1 (w5.setCell ⟨t, 0, none⟩ (.slice a' (G.length + 1) cap'))) := ((HB2.out.mono hBw).trans hb5).setCell (p := ⟨t, 0, none⟩) hlo _
        have HYn : Hid (Ty pt w1 (w5.setCell ⟨t, 0, none⟩ (.slice a' (G.length + 1) cap'))) := (Ty.ofBelow HB2.out).trans ((hty5.mono fun T hT => by simp [pt] at hT; simp [hT]).trans (ty_set hrow5 rfl _))
        have HN2 : Hid (Calls Try.prog 15 #[.pointer (some ⟨t, 0, none⟩)] (w5.setCell ⟨t, 0, none⟩ (.slice a' (G.length + 1) cap')) fun e w' => e = .returned (.int .i64 (G.length + 1)) ∧ w' = w5.setCell ⟨t, 0, none⟩ (.slice a' (G.length + 1) cap')) := by
          have := plen B t _ _ HTn.out
          rw [List.length_append] at this
          exact this
        clear hrow5 hown' hrow hown hcell hb5 hty5 hcell5 hfr5
        obtain ⟨w6, hw6⟩ : ∃ w6, w6 = w5.setCell ⟨t, 0, none⟩ (.slice a' (G.length + 1) cap') := ⟨_, rfl⟩
        rw [← hw6] at HTn HBn HYn HN2 ⊢
        clear hw6
        go_wp2_with fail
        refine HN2.out.mono ?_
        rintro e w7 ⟨rfl, rfl⟩
        go_wp2
        go_ret2
        exact ⟨rfl, HTn.out, HBn.out, HYn.out⟩
      · obtain ⟨e1, e2, e3⟩ := addG_full hl hd hf
        rw [e1, e2, e3]
        have qd : decide (7 ≤ dep G p) = false := by simp; omega
        have qf : decide (64 ≤ (G.length : Int)) = true := by simp; omega
        clear e1 e2 e3 hl
        go_enter Try.func13, Try.ntmps13
        go_wp2_with fail
        refine HL.out.mono ?_
        rintro e w1 ⟨rfl, rfl⟩
        go_wp2_with fail
        refine HD.out.mono ?_
        rintro e w2 ⟨rfl, hb2⟩
        have hT2 := hT.below hb2
        clear hT
        go_wp2_with fail
        refine (HN.out _ hT2).mono ?_
        rintro e w3 ⟨rfl, rfl⟩
        go_wp2
        go_ret2
        exact ⟨rfl, hT2, hb2.mono hBw, Ty.ofBelow hb2⟩
    · obtain ⟨e1, e2, e3⟩ := addG_deep hl hd
      rw [e1, e2, e3]
      have qd : decide (7 ≤ dep G p) = true := by simp; omega
      clear e1 e2 e3 hl
      go_enter Try.func13, Try.ntmps13
      go_wp2_with fail
      refine HL.out.mono ?_
      rintro e w1 ⟨rfl, rfl⟩
      go_wp2_with fail
      refine HD.out.mono ?_
      rintro e w2 ⟨rfl, hb2⟩
      go_wp2
      go_ret2
      exact ⟨rfl, hT.below hb2, hb2.mono hBw, Ty.ofBelow hb2⟩
end Go.Proofs.Ytbceadnhfihlfaa
