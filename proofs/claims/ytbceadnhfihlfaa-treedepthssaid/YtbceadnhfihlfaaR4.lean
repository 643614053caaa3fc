/-
  The document's Add and Remove.
-/
import Derived.Test.YtbceadnhfihlfaaR3
namespace Go.Proofs.Ytbceadnhfihlfaa
open Go.RowKit

/-- The types of the document's tree. -/
def qt (t : TypeId) : Bool := t == 38 || t == 3 || t == 4
theorem info4 : (Try.prog.info? 4).map (fun i => (i.zero, i.size, i.bytes)) = some (some (.bool false), 1, 1) := by kernel_rfl

theorem app_up {ops : Array Oper} {rest : List Oper} {o : Oper} {a : Act} {Q : Exit → Act → World → Prop} (B : Nat) (L : List Int) (wr : World) (hgd : o.guard = none) (s x : Operand)
    (ho : o.op = .call { callee := .builtin .append, args := #[s, x], argTypes := #[35, 35] }) (v : Value) (hs : a.eval s = v) (hown : wr.ownsRow B 3 1 v L.length (L.map iv))
    (p : Int) (hx : a.eval x = .slice (some ⟨wr.heap.size, 0, none⟩) 1 1) (hl : L.length ≤ 1000000) (hb : B ≤ wr.heap.size)
    (hK : ∀ v' w3, w3.ownsRow B 3 1 v' (L.length + 1) ((L ++ [p]).map iv) → Below B wr w3 → Ty (fun T => T == 3) wr w3 → wpList Try.prog ops Q rest (a.put o.dst v') w3) :
    wpList Try.prog ops Q (o :: rest) a (wr.alloc (.cells #[.int .i64 p] 3)) := by
  obtain ⟨i0, hi, hz0, hz1, hz2⟩ := info_parts info3
  refine wpList_append_own _ hgd s x 35 ho B 3 i0 _ 1 8 Try.underlying35 hi hz0 hz1 hz2 rfl (by decide) v _ _ hs (hown.alloc _) ⟨wr.heap.size, 0, none⟩ 1 1 [.int .i64 p] hx rfl (cell_one_new _ _ _) (by simp [Value.oneCell']) (by unfold maxLen; omega) (by omega) (by simp; omega) ?_
  intro v' w' hown' hgrow _
  refine hK v' w' (by simpa [iv] using hown') ?_ ?_
  · exact ((below_alloc wr _).mono hb).grown hgrow (by simp; omega) fun j ej => (hown.lt j ej).1
  · exact (Ty.ofBelow (below_alloc wr _)).trans (ty_grown (hown.alloc _) hgrow rfl)
theorem app_here {ops : Array Oper} {rest : List Oper} {o : Oper} {a : Act} {Q : Exit → Act → World → Prop} (B : Nat) (G : Gr) (wr : World) (hgd : o.guard = none) (s x : Operand)
    (ho : o.op = .call { callee := .builtin .append, args := #[s, x], argTypes := #[36, 36] }) (v : Value) (hs : a.eval s = v) (hown : wr.ownsRow B 4 1 v G.length (G.map hb))
    (p : Int) (n : Nat) (hn : n = wr.heap.size) (hx : a.eval x = .slice (some ⟨n, 0, none⟩) 1 1) (hl : G.length ≤ 1000000) (hbb : B ≤ wr.heap.size)
    (hK : ∀ v' w3, w3.ownsRow B 4 1 v' (G.length + 1) ((G ++ [(p, true)]).map hb) → Below B wr w3 → Ty (fun T => T == 4) wr w3 → wpList Try.prog ops Q rest (a.put o.dst v') w3) :
    wpList Try.prog ops Q (o :: rest) a (wr.alloc (.cells #[.bool true] 4)) := by
  subst hn
  obtain ⟨i0, hi, hz0, hz1, hz2⟩ := info_parts info4
  refine wpList_append_own _ hgd s x 36 ho B 4 i0 _ 1 1 Try.underlying36 hi hz0 hz1 hz2 rfl (by decide) v _ _ hs (hown.alloc _) ⟨wr.heap.size, 0, none⟩ 1 1 [.bool true] hx rfl (cell_one_new _ _ _) (by simp [Value.oneCell']) (by unfold maxLen; omega) (by omega) (by simp; omega) ?_
  intro v' w' hown' hgrow _
  refine hK v' w' (by simpa [hb] using hown') ?_ ?_
  · exact ((below_alloc wr _).mono hbb).grown hgrow (by simp; omega) fun j ej => (hown.lt j ej).1
  · exact (Ty.ofBelow (below_alloc wr _)).trans (ty_grown (hown.alloc _) hgrow rfl)

set_option maxHeartbeats 4000000 in
theorem radd (B t : Nat) (G : Gr) (p : Int) (w : World) (hT : RefIs B w t G) :
    Calls Try.prog 14 #[.pointer (some ⟨t, 0, none⟩), .int .i64 p] w fun e w' => e = .returned (.tuple #[.int .i64 (addN G p), .int .i64 (addE G p)]) ∧ RefIs B w' t (addG G p) ∧ Below B w w' ∧ Ty qt w w' := by
  have HL : Hid (Calls Try.prog 17 #[.pointer (some ⟨t, 0, none⟩), .int .i64 p] w fun e w' => e = .returned (.bool (lv G p)) ∧ w' = w) := rlive B t G p w hT
  have hBw : B ≤ w.heap.size := Nat.le_trans hT.lo (Nat.le_of_lt hT.lt)
  cases hl : lv G p with
  | false =>
    obtain ⟨e1, e2, e3⟩ := addG_dead hl
    rw [hl] at HL
    rw [e1, e2, e3]
    have HT : Hid (RefIs B w t G) := hT
    clear e1 e2 e3 hT hl
    go_enter Try.func14, Try.ntmps14
    go_wp2_with fail
    refine HL.out.mono ?_
    rintro e w1 ⟨rfl, rfl⟩
    go_wp2
    go_ret2
    exact ⟨rfl, HT.out, Below.refl _ _, Ty.refl _ _⟩
  | true =>
    rw [hl] at HL
    have HD : Hid (Calls Try.prog 21 #[.pointer (some ⟨t, 0, none⟩), .int .i64 p] w fun e w' => e = .returned (.int .i64 (dep G p)) ∧ Below w.heap.size w w') := rdepth B t G p w hT
    by_cases hd : dep G p < 7
    · by_cases hf : G.length < 64
      · obtain ⟨e1, e2, e3⟩ := addG_ok hl hd hf
        have HO : Hid (Ok (G ++ [(p, true)])) := ok_snoc hT.ok hl hd hf
        rw [e1, e2, e3]
        clear e1 e2 e3 hl
        obtain ⟨d, hdd⟩ : ∃ d, d = dep G p := ⟨_, rfl⟩
        rw [← hdd] at HD hd
        clear hdd
        have qd : decide (7 ≤ d) = false := by simp; omega
        go_enter Try.func14, Try.ntmps14
        go_wp2_with fail
        refine HL.out.mono ?_
        rintro e w1 ⟨rfl, rfl⟩
        go_wp2_with fail
        refine HD.out.mono ?_
        rintro e w2 ⟨rfl, hb2⟩
        have hT2 := hT.below hb2
        have hB2 := hb2.size
        have HB2 : Hid (Below w1.heap.size w1 w2) := hb2
        clear hb2 hT
        obtain ⟨vU, vH, U, hrow, hU, hH, hlen, hsame⟩ := hT2.h
        have hlo := hT2.lo
        have htl := hT2.lt
        obtain ⟨aU, cU, rfl, -⟩ := own_form hU
        obtain ⟨aH, cH, rfl, -⟩ := own_form hH
        have hcell : w2.cell? ⟨t, 0, none⟩ = some (.slice aU U.length cU) := by rw [hrow.cell]; rfl
        have HS : Hid (∀ k (hk : k < (G ++ [(p, true)]).length) (hk2 : k < (U ++ [p]).length), (G ++ [(p, true)])[k].2 = true → (U ++ [p])[k] = (G ++ [(p, true)])[k].1) := by
          intro k hk hk2 h1
          by_cases hkl : k < G.length
          · rw [List.getElem_append_left hkl] at h1 ⊢
            rw [List.getElem_append_left (by omega)]
            exact hsame k hkl (by omega) h1
          · simp at hk
            have e1 : k = G.length := by omega
            subst e1
            simp [hlen]
        have qf : decide (64 ≤ (U.length : Int)) = false := by simp; omega
        have HLEN : Hid (U.length = G.length) := hlen
        have hul : U.length < 64 := by omega
        clear hT2 hsame hlen
        go_wp2_with (first | (at_builtin; refine app_up B U w2 rfl _ _ rfl (.slice aU U.length cU) rfl hU p rfl (by omega) (by omega) ?_; intro v' w5 hown' hb5 hty5; obtain ⟨a', cap', rfl, -⟩ := own_form hown'; have hrow5 := hrow.ty hty5 rfl; have hcell5 := hrow5.cell 0; have hfr5 := hrow5.frozen 0; have hH5 := own_ty hH hty5 rfl; have hrow6 := hrow5.set 0 (.slice a' (U.length + 1) cap'); have hcell6 := hrow6.cell 1; have hfr6 := hrow6.frozen 1; have hz6 := (hb5.setCell (p := ⟨t, 0, none⟩) hlo (.slice a' (U.length + 1) cap')).size) | (at_builtin; refine app_here B G (w5.setCell ⟨t, 0, none⟩ (.slice a' (U.length + 1) cap')) rfl _ _ rfl (.slice aH G.length cH) rfl (own_ty hH5 (ty_set (C := fun T => T == 38) hrow5 rfl _) rfl) p w5.heap.size (by simp) rfl (by omega) (by omega) ?_; intro v'' w7 hown2 hb7 hty7; obtain ⟨a'', cap'', rfl, -⟩ := own_form hown2; have hrow7 := hrow6.ty hty7 rfl; have hfr7 := hrow7.frozen 1; have hcell7 := hrow7.cell 1; have hrow8 := hrow7.set 1 (.slice a'' (G.length + 1) cap''); have hcell8 := hrow8.cell 0))
        go_ret2
        have t5 : Ty (fun T => T == 38) w5 _ := ty_set (i := 0) (C := fun T => T == 38) hrow5 rfl (.slice a' (U.length + 1) cap')
        have t7 : Ty (fun T => T == 38) w7 _ := ty_set (i := 1) (C := fun T => T == 38) hrow7 rfl (.slice a'' (G.length + 1) cap'')
        have hU8 := own_ty (own_ty (own_ty hown' t5 rfl) hty7 rfl) t7 rfl
        have hH8 := own_ty hown2 t7 rfl
        refine ⟨by rw [HLEN.out]; rfl, ⟨⟨_, _, U ++ [p], hrow8, ?_, ?_, ?_, HS.out⟩, hlo, HO.out⟩, ?_, ?_⟩
        · simpa using hU8
        · simpa using hH8
        · simp [HLEN.out]
        · exact (((HB2.out.mono hBw).trans (hb5.setCell (p := ⟨t, 0, none⟩) hlo _)).trans hb7).setCell (p := ⟨t, 1, none⟩) hlo _
        · have m3 : ∀ T, qt T = false → (T == 3) = false := fun T hT => by simp [qt] at hT; simp [hT]
          have m4 : ∀ T, qt T = false → (T == 4) = false := fun T hT => by simp [qt] at hT; simp [hT]
          have m8 : ∀ T, qt T = false → (T == 38) = false := fun T hT => by simp [qt] at hT; simp [hT]
          exact (Ty.ofBelow HB2.out).trans ((hty5.mono m3).trans ((t5.mono m8).trans ((hty7.mono m4).trans (t7.mono m8))))
      · obtain ⟨e1, e2, e3⟩ := addG_full hl hd hf
        rw [e1, e2, e3]
        have qd : decide (7 ≤ dep G p) = false := by simp; omega
        have qf : decide (64 ≤ (G.length : Int)) = true := by simp; omega
        clear e1 e2 e3 hl hf
        go_enter Try.func14, Try.ntmps14
        go_wp2_with fail
        refine HL.out.mono ?_
        rintro e w1 ⟨rfl, rfl⟩
        go_wp2_with fail
        refine HD.out.mono ?_
        rintro e w2 ⟨rfl, hb2⟩
        have HT2 : Hid (RefIs B w2 t G) := hT.below hb2
        obtain ⟨gu, cu, gh, ch, U, -, hc0, -, -, -, -⟩ := HT2.out.open
        clear hT
        go_wp2
        go_ret2
        exact ⟨rfl, HT2.out, hb2.mono hBw, Ty.ofBelow hb2⟩
    · obtain ⟨e1, e2, e3⟩ := addG_deep hl hd
      rw [e1, e2, e3]
      have qd : decide (7 ≤ dep G p) = true := by simp; omega
      clear e1 e2 e3 hl
      go_enter Try.func14, Try.ntmps14
      go_wp2_with fail
      refine HL.out.mono ?_
      rintro e w1 ⟨rfl, rfl⟩
      go_wp2_with fail
      refine HD.out.mono ?_
      rintro e w2 ⟨rfl, hb2⟩
      go_wp2
      go_ret2
      exact ⟨rfl, hT.below hb2, hb2.mono hBw, Ty.ofBelow hb2⟩

theorem hb_set (G : Gr) (k : Nat) (q : Int) : (G.map hb).set k (.bool false) = (G.set k (q, false)).map hb := by simp [hb, List.map_set]

set_option maxHeartbeats 4000000 in
theorem rrem (B t : Nat) (G : Gr) (g : Int) (w : World) (hT : RefIs B w t G) :
    Calls Try.prog 12 #[.pointer (some ⟨t, 0, none⟩), .int .i64 g] w fun e w' => e = .returned (.int .i64 (remE G g)) ∧ RefIs B w' t (remG G g) ∧ Below B w w' ∧ Ty qt w w' := by
  have HL : Hid (Calls Try.prog 17 #[.pointer (some ⟨t, 0, none⟩), .int .i64 g] w fun e w' => e = .returned (.bool (lv G g)) ∧ w' = w) := rlive B t G g w hT
  have HK : Hid (Calls Try.prog 28 #[.pointer (some ⟨t, 0, none⟩), .int .i64 g] w fun e w' => ∃ v, e = .returned v ∧ w'.ownsRow w.heap.size 3 1 v (kids G g).length ((kids G g).map iv) ∧ Below w.heap.size w w') := rkids B t G g w hT
  have hBw : B ≤ w.heap.size := Nat.le_trans hT.lo (Nat.le_of_lt hT.lt)
  by_cases h0 : g = 0
  · subst h0
    obtain ⟨e1, e2⟩ := remG_root (G := G)
    rw [e1, e2]
    have q0 : ((0 : Int) == 0) = true := rfl
    have HT : Hid (RefIs B w t G) := hT
    clear e1 e2 hT
    go_enter Try.func12, Try.ntmps12
    go_wp2_with fail
    go_ret
    exact ⟨rfl, HT.out, Below.refl _ _, Ty.refl _ _⟩
  · have q0 : (g == 0) = false := by simpa using h0
    cases hl : lv G g with
    | false =>
      obtain ⟨e1, e2⟩ := remG_dead h0 hl
      rw [hl] at HL
      rw [e1, e2]
      have HT : Hid (RefIs B w t G) := hT
      clear e1 e2 hT hl h0
      go_enter Try.func12, Try.ntmps12
      go_wp2_with fail
      refine HL.out.mono ?_
      rintro e w1 ⟨rfl, rfl⟩
      go_wp2
      go_ret
      exact ⟨rfl, HT.out, Below.refl _ _, Ty.refl _ _⟩
    | true =>
      rw [hl] at HL
      by_cases hk : kids G g = []
      · obtain ⟨e1, e2⟩ := remG_ok h0 hl hk
        have HO : Hid (Ok (G.set g.toNat (0, false))) := ok_set hT.ok hl h0 hk
        rw [e1, e2]
        rw [hk] at HK
        have hgl := lv_lo hl
        clear e1 e2 hl hk h0
        obtain ⟨k, rfl⟩ := Int.eq_ofNat_of_zero_le hgl.1
        have hkl : k < G.length := by omega
        rw [Int.toNat_natCast] at HO ⊢
        have q1 : decide (0 < (0 : Int)) = false := rfl
        go_enter Try.func12, Try.ntmps12
        go_wp2_with fail
        refine HL.out.mono ?_
        rintro e w1 ⟨rfl, rfl⟩
        go_wp2_with fail
        refine HK.out.mono ?_
        rintro e w2 ⟨v, rfl, hv, hb2⟩
        obtain ⟨a1, cap1, rfl, -⟩ := own_form hv
        have hT2 := hT.below hb2
        have HB2 : Hid (Below w1.heap.size w1 w2) := hb2
        obtain ⟨vU, vH, U, hrow, hU, hH, hlen, hsame⟩ := hT2.h
        have hlo := hT2.lo
        obtain ⟨aH, cH, rfl, hat⟩ := own_form hH
        obtain ⟨q, rfl, hat2⟩ := hat (by omega)
        have hc : w2.cell? ⟨t, 1, none⟩ = some (.slice (some ⟨q, 0, none⟩) G.length cH) := by rw [hrow.cell]; rfl
        have k0 : w2.cell? ⟨q, k, none⟩ = some (.bool G[k].2) := by rw [hat2 k (by omega)]; simp [hb, hkl]
        have f0 := hH.frozenAt k
        have HS : Hid (∀ j (hj : j < (G.set k (0, false)).length) (hj2 : j < U.length), (G.set k (0, false))[j].2 = true → U[j] = (G.set k (0, false))[j].1) := by
          intro j hj hj2 h1
          rw [List.getElem_set] at h1 ⊢
          by_cases hjk : k = j
          · simp [hjk] at h1
          · simp only [hjk, if_false] at h1 ⊢
            exact hsame j (by simpa using hj) hj2 h1
        have HLEN : Hid (U.length = G.length) := hlen
        clear hb2 hT hT2 hat hat2 hv HL HK hsame hlen
        go_wp2_with fail
        go_ret
        obtain ⟨o1, g1⟩ := hH.stored k (.bool false)
        have t1 : Ty (fun T => T == 4) w2 _ := ty_grown hH g1 rfl
        rw [hb_set G k 0] at o1
        have hq := (hH.lt q rfl).1
        refine ⟨rfl, ⟨⟨_, _, U, hrow.ty t1 rfl, own_ty hU t1 rfl, ?_, by simpa using HLEN.out, HS.out⟩, hlo, HO.out⟩, ?_, ?_⟩
        · simpa using o1
        · exact (HB2.out.mono hBw).setCell (p := ⟨q, k, none⟩) hq _
        · exact (Ty.ofBelow HB2.out).trans (t1.mono fun T hT => by simp [qt] at hT; simp [hT])
      · obtain ⟨e1, e2⟩ := remG_busy h0 hl hk
        rw [e1, e2]
        have hp : 0 < (kids G g).length := List.length_pos_iff.2 hk
        obtain ⟨n, hn⟩ : ∃ n, n = (kids G g).length := ⟨_, rfl⟩
        rw [← hn] at HK hp
        have q1 : decide (0 < (n : Int)) = true := by simp; omega
        clear e1 e2 hl hk h0 hn
        go_enter Try.func12, Try.ntmps12
        go_wp2_with fail
        refine HL.out.mono ?_
        rintro e w1 ⟨rfl, rfl⟩
        go_wp2_with fail
        refine HK.out.mono ?_
        rintro e w2 ⟨v, rfl, hv, hb2⟩
        obtain ⟨a1, cap1, rfl, -⟩ := own_form hv
        go_wp2
        go_ret
        exact ⟨rfl, hT.below hb2, hb2.mono hBw, Ty.ofBelow hb2⟩
end Go.Proofs.Ytbceadnhfihlfaa
