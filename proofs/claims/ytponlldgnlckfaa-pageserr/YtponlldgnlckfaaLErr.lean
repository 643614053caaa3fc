/-
  The law PagesErr walked.
-/
import Derived.Test.YtponlldgnlckfaaSt
import Derived.BigQuiet
import Derived.Deep.CutBlock
import Derived.Deep.DeepCutAuto
namespace Go.Proofs.Ytponlldgnlckfaa
open Go.RowKit

/-! ### a row of pages of one's own -/
def pcs (L : List Pg) : List Value := L.flatMap fun x => (pc x).toList
theorem pcs_len (L : List Pg) : (pcs L).length = L.length * 9 := by
  unfold pcs
  induction L with
  | nil => rfl
  | cons e L ih => rw [List.flatMap_cons, List.length_append, ih, List.length_cons]; simp [pc]; omega
theorem pcs_append (A B : List Pg) : pcs (A ++ B) = pcs A ++ pcs B := by simp [pcs]
theorem pcs_at (L : List Pg) (j i : Nat) (hj : j < L.length) (hi : i < 9) : (pcs L)[j * 9 + i]? = (pc (L.getD j pz)).toList[i]? := by
  induction L generalizing j with
  | nil => simp at hj
  | cons e L ih =>
    have hl : (pc e).toList.length = 9 := rfl
    cases j with
    | zero =>
      show ((pc e).toList ++ pcs L)[0 * 9 + i]? = _
      rw [Nat.zero_mul, Nat.zero_add, List.getElem?_append_left (by omega)]
      rfl
    | succ j =>
      show ((pc e).toList ++ pcs L)[(j + 1) * 9 + i]? = _
      rw [List.getElem?_append_right (by omega), hl]
      have : (j + 1) * 9 + i - 9 = j * 9 + i := by omega
      rw [this, ih j (by simpa using hj)]
      rfl
theorem info45 : (Try.prog.info? 45).map (fun i => (i.zero, i.size, i.bytes)) = some (some (.agg #[.int .i64 0, .int .i64 0, .int .i64 0, .int .i64 0, .int .i64 0, .int .i64 0, .int .i64 0, .bool false, .bool false]), 9, 64) := by kernel_rfl
/-- A page more of one's own. -/
theorem app_pg {ops : Array Oper} {rest : List Oper} {o : Oper} {a : Act} {Q : Exit → Act → World → Prop} (B : Nat) (M : List Pg) (y : Pg) (wr : World) (hgd : o.guard = none) (s x : Operand)
    (ho : o.op = .call { callee := .builtin .append, args := #[s, x], argTypes := #[57, 57] }) (v : Value) (hs : a.eval s = v) (hown : wr.ownsRow B 45 9 v M.length (pcs M))
    (n : Nat) (hn : n = wr.heap.size) (hx : a.eval x = .slice (some ⟨n, 0, none⟩) 1 1) (hl : M.length ≤ 1000000) (hb : B ≤ wr.heap.size)
    (hK : ∀ v' w3, w3.ownsRow B 45 9 v' (M ++ [y]).length (pcs (M ++ [y])) → Below B (wr.alloc (.cells (pc y) 45)) w3 → (wr.alloc (.cells (pc y) 45)).grownBy w3 v.ownBlock → wpList Try.prog ops Q rest (a.put o.dst v') w3) :
    wpList Try.prog ops Q (o :: rest) a (wr.alloc (.cells (pc y) 45)) := by
  subst hn
  obtain ⟨i0, hi, hz0, hz1, hz2⟩ := info_parts info45
  have hnew := RowAt.new wr (pc y) 45
  have hb2 : B ≤ (wr.alloc (.cells (pc y) 45)).heap.size := by simp; omega
  refine wpList_append_own _ hgd s x 57 ho B 45 i0 _ 9 64 Try.underlying57 hi hz0 hz1 hz2 rfl (by decide) v _ _ hs (hown.alloc _) ⟨wr.heap.size, 0, none⟩ 1 1 (pc y).toList hx rfl ?_ ?_ (by unfold maxLen; omega) (by omega) hb2 ?_
  · intro j u hu
    rw [WideShapes.add_plain, Nat.zero_add, hnew.cell]
    exact hu
  · intro u hu
    simp [pc] at hu
    rcases hu with rfl | rfl | rfl | rfl | rfl | rfl | rfl | rfl | rfl <;> rfl
  · intro v' w' hown' hgrow _
    refine hK v' w' ?_ ?_ hgrow
    · rw [List.length_append, pcs_append]
      simpa [pcs] using hown'
    · exact (Below.refl _ _).grown hgrow hb2 fun j ej => (hown.lt j ej).1
/-- One read again. -/
theorem row_page {w : World} {B n : Nat} {v : Value} {M : List Pg} (h : w.ownsRow B 45 9 v M.length (pcs M)) (hn : n = M.length) : ∃ a cap, v = .slice a n cap ∧ ∀ j, j < M.length → ∃ g, a = some ⟨g, 0, none⟩ ∧ ∀ i, i < 9 → w.cell? ⟨g, j * 9 + i, none⟩ = (pc (M.getD j pz)).toList[i]? := by
  subst hn
  obtain ⟨a, cap, rfl, h3⟩ := own_form h
  refine ⟨a, cap, rfl, fun j hj => ?_⟩
  obtain ⟨g, rfl, h4⟩ := h3 (by omega)
  exact ⟨g, rfl, fun i hi => by rw [h4 _ (by omega), pcs_at M j i hj hi]⟩
/-- The pages of the first j ids. -/
def wasL (L : List Pg) (N : List Int) (j : Nat) : List Pg := (N.take j).map (getL L)
theorem wasL_zero (L : List Pg) (N : List Int) : wasL L N 0 = [] := rfl
theorem wasL_len (L : List Pg) (N : List Int) (j : Nat) (hj : j ≤ N.length) : (wasL L N j).length = j := by simp [wasL]; omega
theorem wasL_succ (L : List Pg) (N : List Int) (j : Nat) (hj : j < N.length) : wasL L N (j + 1) = wasL L N j ++ [getL L (N.getD j 0)] := by
  unfold wasL
  rw [List.take_succ_eq_append_getElem hj, List.map_append]
  simp [hj]
theorem wasL_at (L : List Pg) (N : List Int) (j : Nat) (hj : j < N.length) : (wasL L N N.length).getD j pz = getL L (N.getD j 0) := by
  simp [wasL, hj]

section
variable {Tb : World → World → Nat → (Nat → Prop) → List Pg → Prop}
set_option maxRecDepth 100000 in
set_option maxHeartbeats 8000000 in
theorem err_out (I : TbI Tb) (a : Option Addr) (cap n : Nat) (x : Ac) (w : World) (h : decide ((80 : Int) < (n : Int)) = true) :
    Calls Try.prog 5 #[.slice a n cap, .agg #[.int .i64 x.k, .int .i64 x.id, .int .i64 x.kf, .int .i64 x.ki, .int .i64 x.pl, .int .i64 x.n]] w fun e w' => e = .returned (.bool true) ∧ Below w.heap.size w w' := by
  have hb0 := below_alloc w (.cells #[.int .i64 x.k, .int .i64 x.id, .int .i64 x.kf, .int .i64 x.ki, .int .i64 x.pl, .int .i64 x.n] 34)
  have HW := hid (fun w => works_any I w)
  have HB0 := hid hb0
  clear hb0
  go_enter Try.func5, Try.ntmps5
  go_wp2_with (go_at_call 10; refine (HW.out _).mono ?_; rintro e w1 ⟨rfl, hb⟩)
  go_ret
  exact ⟨rfl, bel_trans HB0.out hb (Nat.le_refl _)⟩

set_option maxRecDepth 100000 in
set_option maxHeartbeats 8000000 in
theorem err_in (I : TbI Tb) (a : Option Addr) (cap : Nat) (l : List Ac) (x : Ac) (w : World) (hc : ActsAt w a l) (hl : l.length ≤ 80) (hx : AcW x) :
    Calls Try.prog 5 #[.slice a l.length cap, .agg #[.int .i64 x.k, .int .i64 x.id, .int .i64 x.kf, .int .i64 x.ki, .int .i64 x.pl, .int .i64 x.n]] w fun e w' => e = .returned (.bool true) ∧ Below w.heap.size w w' := by
  have d1 : decide ((80 : Int) < (l.length : Int)) = false := by simp; omega
  have hb0 := below_alloc w (.cells #[.int .i64 x.k, .int .i64 x.id, .int .i64 x.kf, .int .i64 x.ki, .int .i64 x.pl, .int .i64 x.n] 34)
  have hbx0 := RowAt.new w #[.int .i64 x.k, .int .i64 x.id, .int .i64 x.kf, .int .i64 x.ki, .int .i64 x.pl, .int .i64 x.n] 34
  obtain ⟨w0, hw0⟩ : ∃ w0, w0 = w.alloc (.cells #[.int .i64 x.k, .int .i64 x.id, .int .i64 x.kf, .int .i64 x.ki, .int .i64 x.pl, .int .i64 x.n] 34) := ⟨_, rfl⟩
  rw [← hw0] at hb0 hbx0
  obtain ⟨qx, hqx⟩ : ∃ q, q = w.heap.size := ⟨_, rfl⟩
  rw [← hqx] at hbx0
  have HW0 := hid hw0
  have HQX := hid hqx
  have HB0 := hid hb0
  have HBX := hid hbx0
  have HC := hid hc
  have HXW := hid hx
  clear hc hx hb0 hbx0 hw0 hqx
  go_enter Try.func5, Try.ntmps5
  go_wp2_with fail
  rw [← HW0.out, ← HQX.out]
  refine (works_any I _).mono ?_
  rintro e w1 ⟨rfl, hb1⟩
  have HBX1 := hid (HBX.out.below hb1 HBX.out.lt)
  have HB1 := hid (bel_trans HB0.out hb1 (Nat.le_refl _))
  clear hb1 HW0 HQX HBX
  go_wp2_with fail
  refine (St.new I (Below.refl _ w1)).mono ?_
  rintro e w2 ⟨t, rfl, h2⟩
  have H2 := hid h2
  clear h2 d1
  go_wp2_with fail
  go_loopw [7] (fun s7 wr => ∃ i : Nat, i ≤ l.length ∧ s7 = .int .i64 i ∧ St Tb w1 wr t (dL l i) []) (fun s7 _ => l.length - (intOf s7).toNat)
  case atStart => exact ⟨0, by omega, rfl, H2.out⟩
  case round =>
    clear H2
    obtain ⟨i, hi, rfl, hT⟩ := hrel
    have hdl := dL_len l i hi
    have hok := dL_ok l i hi
    by_cases hlt : i < l.length
    · have d0 : decide ((i : Int) < (l.length : Int)) = true := by simp; omega
      obtain ⟨b, off, rfl, k0, k1, k2, k3, k4, k5, hw⟩ := ((HC.out.below HB1.out).below (hT.bel I)).at hlt
      have hD := dL_succ l i hlt
      obtain ⟨r, hr⟩ : ∃ r, r = l[i] := ⟨_, rfl⟩
      rw [← hr] at k0 k1 k2 k3 k4 k5 hw hD
      have C := hid (hT.doI I hok (by omega) (by omega) r hw)
      rw [← hD] at C
      clear hr hw hD hT hok hdl
      go_wp2_with fail
      refine C.out.mono ?_
      rintro e w4 ⟨rfl, h4⟩
      have H4 := hid h4
      clear h4 C
      go_wp2_with fail
      exact ⟨⟨i + 1, by omega, by go_num, H4.out⟩, by simp [intOf]; omega⟩
    · obtain rfl : i = l.length := by omega
      have d0 : decide ((l.length : Int) < (l.length : Int)) = false := by simp
      obtain ⟨L, hL⟩ : ∃ L, L = dL l l.length := ⟨_, rfl⟩
      rw [← hL] at hT hok hdl
      have HL := hid (show L.length < 900000 by omega)
      have HK := hid (hok.more (show (1000 * l.length : Int) ≤ 100000 by omega))
      obtain ⟨⟨S, hS, -⟩, -⟩ := hT
      have C := I.all hS HL.out
      have hn := idsL_len L (anyP true 0)
      obtain ⟨N, hN⟩ : ∃ N, N = idsL L (anyP true 0) := ⟨_, rfl⟩
      rw [← hN] at C hn
      obtain ⟨Bs, hBs⟩ : ∃ b, b = wr.heap.size := ⟨_, rfl⟩
      have HSB : Hid (∀ k, S k → k < Bs) := fun k hk => by rw [hBs]; exact I.lt hS hk
      rw [← hBs] at C
      have HC1 := hid C
      have HTS := hid hS
      have HNN := hid hN
      have hNl : N.length ≤ 80 := by omega
      have HBS := hid hBs
      clear hL hok hdl hlt hS C hn hN hBs
      go_wp2_with fail
      refine HC1.out.mono ?_
      rintro e w5 ⟨a5, c5, rfl, hI, hp, hb5⟩
      have HI5 := hid hI
      have HP5 := hid hp
      have HT5 := hid (I.later HTS.out (by rw [← HBS.out]; exact hb5))
      have HBS5 := hid (show Bs ≤ w5.heap.size by rw [HBS.out]; exact hb5.size)
      clear hI hp hb5 HC1 HTS HBS
      obtain ⟨B2, hB2⟩ : ∃ b, b = w5.heap.size := ⟨_, rfl⟩
      have HB2 := hid hB2
      clear hB2
      go_wp2_with fail
      go_loopw [8, 10, 11, 12] (fun s8 s10 _ _ wq => ∃ j : Nat, j ≤ N.length ∧ s10 = .int .i64 j ∧ wq.ownsRow B2 45 9 s8 (wasL L N j).length (pcs (wasL L N j)) ∧ Below B2 w5 wq) (fun _ s10 _ _ _ => N.length - (intOf s10).toNat)
      case atStart => exact ⟨0, by omega, rfl, World.ownsRow_nil _ _ _ _, Below.refl _ _⟩
      case round =>
        obtain ⟨j, hj, rfl, hown, hbq⟩ := hrel
        have hbq5 : Below w5.heap.size w5 wr := by rw [← HB2.out]; exact hbq
        have hTq := I.later HT5.out hbq5
        have hIq := HI5.out.later hbq5
        have hbs : B2 ≤ wr.heap.size := by rw [HB2.out]; exact hbq.size
        have HBQ := hid hbq
        by_cases hjl : j < N.length
        · have d2 : decide ((j : Int) < (N.length : Int)) = true := by simp; omega
          obtain ⟨g, o, rfl, cj⟩ := hIq.at' j hjl
          have hnw : (Lit.int .i64 (N.getD j 0)).wf = true := by
            have := hIq.wf N[j] (List.getElem_mem hjl)
            have e : N.getD j 0 = N[j] := by simp [hjl]
            rw [e]; exact this
          have C2 := I.get hTq hnw
          have hws := wasL_succ L N j hjl
          have hwl := wasL_len L N j (by omega)
          obtain ⟨z, hz⟩ : ∃ z, z = N.getD j 0 := ⟨_, rfl⟩
          rw [← hz] at cj C2 hws
          obtain ⟨y, hy⟩ : ∃ y, y = getL L z := ⟨_, rfl⟩
          rw [← hy] at C2 hws
          obtain ⟨Wl, hWl⟩ : ∃ K, K = wasL L N j := ⟨_, rfl⟩
          rw [← hWl] at hws hwl hown
          have HC2 : Hid (Calls Try.prog 19 #[.pointer (some ⟨t, 0, none⟩), .int .i64 z] wr fun e w' => e = .returned (.tuple #[.agg #[.int .i64 y.kf, .int .i64 y.ki, .int .i64 y.pl, .int .i64 y.at', .int .i64 y.ow, .int .i64 y.rf, .int .i64 0, .bool false, .bool y.dr], .int .i64 (getE L z)]) ∧ Below wr.heap.size wr w') := C2
          have HWS := hid hws
          have HOWN := hid hown
          have HBSQ := hid hbs
          have hwl2 : Wl.length ≤ 80 := by omega
          clear hnw C2 hws hwl hz hy hWl hown hTq hIq hbq hbq5 hbs
          go_wp2_with fail
          refine HC2.out.mono ?_
          rintro e w6 ⟨rfl, hb6⟩
          have HB6 := hid hb6
          have HOW6 := hid (own_below HOWN.out hb6)
          have HBB := hid (below_alloc w6 (.cells #[.int .i64 y.kf, .int .i64 y.ki, .int .i64 y.pl, .int .i64 y.at', .int .i64 y.ow, .int .i64 y.rf, .int .i64 0, .bool false, .bool y.dr] 45))
          have hs6 : B2 ≤ w6.heap.size := Nat.le_trans HBSQ.out hb6.size
          clear hb6 HC2 HOWN cj
          go_wp2_with (at_builtin; refine app_pg B2 Wl y (w6.alloc (.cells #[.int .i64 y.kf, .int .i64 y.ki, .int .i64 y.pl, .int .i64 y.at', .int .i64 y.ow, .int .i64 y.rf, .int .i64 0, .bool false, .bool y.dr] 45)) rfl _ _ rfl u8 rfl (own_below HOW6.out HBB.out) (w6.heap.size + 1) (by simp) rfl (by omega) (by simp; omega) ?_; intro v' w7 ho7 hb7 hg7)
          have hb67 : Below B2 wr ((w6.alloc (.cells #[.int .i64 y.kf, .int .i64 y.ki, .int .i64 y.pl, .int .i64 y.at', .int .i64 y.ow, .int .i64 y.rf, .int .i64 0, .bool false, .bool y.dr] 45)).alloc (.cells (pc y) 45)) := ((HB6.out.mono HBSQ.out).trans (HBB.out.mono hs6)).trans ((below_alloc _ _).mono (by simp; omega))
          exact ⟨⟨j + 1, by omega, by go_num, by rw [HWS.out]; exact ho7, (HBQ.out.trans hb67).trans hb7⟩, by simp [intOf]; omega⟩
        · obtain rfl : j = N.length := by omega
          have d2 : decide ((N.length : Int) < (N.length : Int)) = false := by simp
          have HOWN := hid hown
          have HTQ := hid hTq
          have HIQ := hid hIq
          have x1 : Below w1.heap.size w1 wr := I.bel hTq
          have hbx := HBX1.out.below x1 HBX1.out.lt
          have b0 : wr.cell? ⟨qx, 0, none⟩ = some (.int .i64 x.k) := by rw [hbx.cell]; rfl
          have b1 : wr.cell? ⟨qx, 1, none⟩ = some (.int .i64 x.id) := by rw [hbx.cell]; rfl
          have b2 : wr.cell? ⟨qx, 2, none⟩ = some (.int .i64 x.kf) := by rw [hbx.cell]; rfl
          have b3 : wr.cell? ⟨qx, 3, none⟩ = some (.int .i64 x.ki) := by rw [hbx.cell]; rfl
          have b4 : wr.cell? ⟨qx, 4, none⟩ = some (.int .i64 x.pl) := by rw [hbx.cell]; rfl
          have b5 : wr.cell? ⟨qx, 5, none⟩ = some (.int .i64 x.n) := by rw [hbx.cell]; rfl
          have C3 := doI I hTq HK.out (by omega) HL.out x HXW.out
          obtain ⟨E, hE⟩ : ∃ E, E = doE L x := ⟨_, rfl⟩
          obtain ⟨D, hD⟩ : ∃ D, D = doN L x := ⟨_, rfl⟩
          rw [← hE, ← hD] at C3
          have HC3 := hid C3
          have HE := hid hE
          have HBSZ := hid hbs
          clear hown hTq hIq hbq hbq5 hbs x1 hbx C3 hE hD
          go_wp2_with fail
          refine HC3.out.mono ?_
          rintro e w8 ⟨rfl, S', g1, g2, g3⟩
          have HG1 := hid g1
          have HG2 := hid g2
          have HBL := hid (I.bel g1)
          clear g1 g2 g3 HC3 b0 b1 b2 b3 b4 b5
          by_cases he : E = 0
          · have d3 : (E == 0) = true := by simpa using he
            clear he
            go_wp2_with fail
            go_ret
            exact ⟨rfl, HB1.out.trans (HBL.out.mono HB1.out.size)⟩
          · have d3 : (E == 0) = false := by simpa using he
            have hdl : doL L x = L := do_err (by rw [← HE.out]; exact he)
            have g1 := HG1.out
            rw [hdl] at g1
            have C4 := I.all g1 HL.out
            rw [← HNN.out] at C4
            have HC4 := hid C4
            have HT8 := hid g1
            -- what lies beside the table stays
            have HI8 : Hid (Ints w8 a5 N) := by
              refine ⟨fun k hk => ?_, HIQ.out.wf⟩
              obtain ⟨b, off, e, h1⟩ := HIQ.out.at' k hk
              have hpb := HP5.out _ e
              exact ⟨b, off, e, HG2.out.cell h1 (fun hs => by have := HSB.out b hs; simp at hpb; omega)⟩
            have HO8 := hid (HG2.out.own HOWN.out (fun k hk => by have := HSB.out k hk; have := HBS5.out; have := HB2.out; omega))
            clear he hdl g1 C4 HG1 HG2 HTQ HIQ HOWN
            go_wp2_with fail
            refine HC4.out.mono ?_
            rintro e w9 ⟨a9, c9, rfl, hI9, -, hb9⟩
            have HI9 := hid (HI8.out.later hb9)
            have HO9 := hid (own_below HO8.out hb9)
            have HT9 := hid (I.later HT8.out hb9)
            have C5 := rowT a5 a9 c5 c9 N w9 HI9.out hI9 (by omega)
            have HC5 := hid C5
            clear hI9 hb9 C5 HC4 HI8 HO8 HT8
            go_wp2_with fail
            refine HC5.out.mono ?_
            rintro e w10 ⟨rfl, n10, rfl⟩
            have hD10 : Below w9.heap.size w9 (w9.drewN n10) := ⟨rfl, rfl, rfl, Nat.le_refl _, fun _ _ => rfl⟩
            have HI10 := hid (HI9.out.later hD10)
            have HO10 := hid (own_below HO9.out hD10)
            have HT10 := hid (I.later HT9.out hD10)
            clear hD10 HI9 HO9 HT9 HC5
            obtain ⟨w11, hw11⟩ : ∃ w11, w11 = w9.drewN n10 := ⟨_, rfl⟩
            rw [← hw11] at HI10 HO10 HT10
            rw [← hw11]
            clear hw11
            obtain ⟨a8, c8, hv8, hat8⟩ := row_page HO10.out (show N.length = (wasL L N N.length).length from (wasL_len L N N.length (Nat.le_refl _)).symm)
            rw [wasL_len L N N.length (Nat.le_refl _)] at hat8
            have HA8 := hid hat8
            subst hv8
            clear hat8 HO10
            go_wp2_with fail
            go_loopw [15, 16, 17] (fun s15 _ _ wq => ∃ j : Nat, j ≤ N.length ∧ s15 = .int .i64 j ∧ Below w11.heap.size w11 wq) (fun s15 _ _ _ => N.length - (intOf s15).toNat)
            case atStart => exact ⟨0, by omega, rfl, Below.refl _ _⟩
            case round =>
              obtain ⟨j, hj, rfl, hbq⟩ := hrel
              have HBQ := hid hbq
              have hTq := I.later HT10.out hbq
              have hIq := HI10.out.later hbq
              by_cases hjl : j < N.length
              · have d5 : decide ((j : Int) < (N.length : Int)) = true := by simp; omega
                obtain ⟨g, o, rfl, cj⟩ := hIq.at' j hjl
                have hnw : (Lit.int .i64 (N.getD j 0)).wf = true := by
                  have := hIq.wf N[j] (List.getElem_mem hjl)
                  have e : N.getD j 0 = N[j] := by simp [hjl]
                  rw [e]; exact this
                have C6 := I.get hTq hnw
                obtain ⟨g8, rfl, h8⟩ := HA8.out j hjl
                have hwa := wasL_at L N j hjl
                rw [hwa] at h8
                obtain ⟨z, hz⟩ : ∃ z, z = N.getD j 0 := ⟨_, rfl⟩
                rw [← hz] at cj C6 h8
                obtain ⟨y, hy⟩ : ∃ y, y = getL L z := ⟨_, rfl⟩
                rw [← hy] at C6 h8
                have HC6 : Hid (Calls Try.prog 19 #[.pointer (some ⟨t, 0, none⟩), .int .i64 z] wr fun e w' => e = .returned (.tuple #[.agg #[.int .i64 y.kf, .int .i64 y.ki, .int .i64 y.pl, .int .i64 y.at', .int .i64 y.ow, .int .i64 y.rf, .int .i64 0, .bool false, .bool y.dr], .int .i64 (getE L z)]) ∧ Below wr.heap.size wr w') := C6
                have H8 : Hid (∀ W, Below w11.heap.size w11 W → W.cell? ⟨g8, j * 9, none⟩ = some (.int .i64 y.kf) ∧ W.cell? ⟨g8, j * 9 + 1, none⟩ = some (.int .i64 y.ki) ∧ W.cell? ⟨g8, j * 9 + 2, none⟩ = some (.int .i64 y.pl) ∧ W.cell? ⟨g8, j * 9 + 3, none⟩ = some (.int .i64 y.at') ∧ W.cell? ⟨g8, j * 9 + 4, none⟩ = some (.int .i64 y.ow) ∧ W.cell? ⟨g8, j * 9 + 5, none⟩ = some (.int .i64 y.rf) ∧ W.cell? ⟨g8, j * 9 + 6, none⟩ = some (.int .i64 0) ∧ W.cell? ⟨g8, j * 9 + 7, none⟩ = some (.bool false) ∧ W.cell? ⟨g8, j * 9 + 8, none⟩ = some (.bool y.dr)) := by
                  intro W hW
                  exact ⟨cell_later hW (h8 0 (by omega)), cell_later hW (h8 1 (by omega)), cell_later hW (h8 2 (by omega)), cell_later hW (h8 3 (by omega)), cell_later hW (h8 4 (by omega)), cell_later hW (h8 5 (by omega)), cell_later hW (h8 6 (by omega)), cell_later hW (h8 7 (by omega)), cell_later hW (h8 8 (by omega))⟩
                have hgt := guard45
                have hqq := eqP y.kf y.ki y.pl y.at' y.ow y.rf y.dr
                clear hnw C6 h8 hwa hz hy hTq hIq hbq
                go_wp2_with fail
                refine HC6.out.mono ?_
                rintro e w12 ⟨rfl, hb12⟩
                have hbx := RowAt.new w12 (pc y) 45
                have hbb := hb12.trans ((below_alloc w12 (.cells (pc y) 45)).mono hb12.size)
                have hbA := bel_trans HBQ.out hbb (Nat.le_refl _)
                obtain ⟨w13, hw13⟩ : ∃ w13, w13 = w12.alloc (.cells (pc y) 45) := ⟨_, rfl⟩
                rw [← hw13] at hbx hbA
                have hw13' : w13 = w12.alloc (.cells #[.int .i64 y.kf, .int .i64 y.ki, .int .i64 y.pl, .int .i64 y.at', .int .i64 y.ow, .int .i64 y.rf, .int .i64 0, .bool false, .bool y.dr] 45) := hw13
                obtain ⟨q13, hq13⟩ : ∃ q, q = w12.heap.size := ⟨_, rfl⟩
                rw [← hq13] at hbx
                have HW13 := hid hw13'
                have HQ13 := hid hq13
                have HBA := hid hbA
                have HBXX := hid hbx
                clear hb12 hbx hbb hbA hw13 hw13' hq13 HC6 cj
                go_upto_region 27 with fail
                rw [← HW13.out, ← HQ13.out]
                obtain ⟨e0, e1, e2, e3, e4, e5, e6, e7, e8⟩ := page_cells HBXX.out
                obtain ⟨f0, f1, f2, f3, f4, f5, f6, f7, f8⟩ := H8.out w13 HBA.out
                go_quiet (fail)
                go_wp2_with fail
                exact ⟨⟨j + 1, by omega, by go_num, below_drawn HBA.out _⟩, by simp [intOf]; omega⟩
              · obtain rfl : j = N.length := by omega
                have d5 : decide ((N.length : Int) < (N.length : Int)) = false := by simp
                have HBL2 := hid (I.bel hTq)
                clear hTq hIq hbq
                go_wp2_with fail
                go_ret
                exact ⟨rfl, HB1.out.trans (HBL2.out.mono HB1.out.size)⟩
theorem err_walk (I : TbI Tb) (a : Option Addr) (cap : Nat) (l : List Ac) (x : Ac) (w : World) (hc : ActsAt w a l) (hx : AcW x) :
    Calls Try.prog 5 #[.slice a l.length cap, .agg #[.int .i64 x.k, .int .i64 x.id, .int .i64 x.kf, .int .i64 x.ki, .int .i64 x.pl, .int .i64 x.n]] w fun e w' => e = .returned (.bool true) ∧ Below w.heap.size w w' := by
  by_cases h : l.length ≤ 80
  · exact err_in I a cap l x w hc h hx
  · exact err_out I a cap l.length x w (by simp only [decide_eq_true_eq]; omega)
end
end Go.Proofs.Ytponlldgnlckfaa
