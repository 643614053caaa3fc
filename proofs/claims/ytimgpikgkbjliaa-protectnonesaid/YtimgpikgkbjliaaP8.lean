/-
  The contract of Effective.
-/
import Derived.Test.YtimgpikgkbjliaaP6
import Derived.Test.YtimgpikgkbjliaaP7
import Derived.Test.YtimgpikgkbjliaaD3
import Derived.Deep.RegionHeld3
namespace Go.Proofs.Ytimgpikgkbjliaa
open Go.RowKit

/-- How much of each is protected. -/
def effL (l : List Nd) (t : Int) : List Int := if vd l && isPlc l.length t then efN l t l.length else []
/-- The first j places' numbers, and noughts. -/
def effRow (l : List Nd) (t : Int) (j : Nat) : List Int := efN l t j ++ List.replicate (l.length - j) 0
theorem effRow_len (l : List Nd) (t : Int) {j : Nat} (h : j ≤ l.length) : (effRow l t j).length = l.length := by
  simp [effRow, efN_len]; omega
theorem effRow_zero (l : List Nd) (t : Int) : effRow l t 0 = List.replicate l.length 0 := by simp [effRow, efN]
theorem effRow_end (l : List Nd) (t : Int) : effRow l t l.length = efN l t l.length := by simp [effRow]
theorem effRow_set (l : List Nd) (t : Int) {j : Nat} (h : j < l.length) : (effRow l t j).set j (eff l t j) = effRow l t (j + 1) := by
  have hl := efN_len l t j
  have e : l.length - j = (l.length - (j + 1)) + 1 := by omega
  unfold effRow
  rw [List.set_append, if_neg (by omega), hl, Nat.sub_self, e, List.replicate_succ, List.set_cons_zero]
  simp only [efN, List.append_assoc, List.singleton_append]
  rw [eff_eq]
theorem effRow_none (l : List Nd) (t : Int) {j : Nat} (h : j < l.length) (h0 : eff l t j = 0) : effRow l t j = effRow l t (j + 1) := by
  have e : l.length - j = (l.length - (j + 1)) + 1 := by omega
  unfold effRow
  rw [e, List.replicate_succ]
  simp only [efN, List.append_assoc, List.singleton_append]
  rw [← eff_eq, h0]
theorem effRow_at (l : List Nd) (t : Int) {i j : Nat} (h : i < j) : at0 (effRow l t j) i = eff l t i := by
  have hl := efN_len l t j
  unfold at0 effRow
  rw [List.getD_eq_getElem?_getD, List.getElem?_append_left (by omega), ← List.getD_eq_getElem?_getD]
  exact eff_get l t h

set_option maxRecDepth 100000 in
set_option maxHeartbeats 8000000 in
theorem peff (a : Option Addr) (cap : Nat) (G : List Nd) (t : Int) (w : World) (h : Nds w a cap G) (hL : G.length ≤ 1000000) :
    Calls Try.prog 11 #[.slice a G.length cap, .int .i64 t] w fun e w' => ∃ a' c', e = .returned (.slice a' (effL G t).length c') ∧ Ints w' a' (effL G t) ∧ Below w.heap.size w w' := by
  obtain ⟨V, hV⟩ : ∃ V, vd G = V := ⟨_, rfl⟩
  have HV : Hid (∀ w, Nds w a cap G → Calls Try.prog 14 #[.slice a G.length cap] w fun e w' => e = .returned (.bool V) ∧ Below w.heap.size w w') := by
    intro w h
    have := pvalid a cap G w h (by omega)
    rw [hV] at this
    exact this
  have HP : Hid (∀ w, Calls Try.prog 22 #[.slice a G.length cap, .int .i64 t] w fun e w' => e = .returned (.bool (isPlc G.length t)) ∧ w' = w) := pplc a G.length cap t
  have HM : Hid (effL G t = if V && isPlc G.length t then efN G t G.length else []) := by show _ = _; rw [← hV]; rfl
  have nilI : ∀ W : World, Ints W none [] := fun W => ⟨fun j hj => by simp at hj⟩
  cases V with
  | false =>
    have HF : Hid (effL G t = []) := by show _ = _; rw [HM.out]; rfl
    clear hV HM
    go_enter Try.func11, Try.ntmps11
    go_wp2_with fail
    refine (HV.out _ h).mono ?_
    rintro e w1 ⟨rfl, hb1⟩
    go_wp2
    go_ret
    exact ⟨none, 0, by rw [HF.out]; rfl, by rw [HF.out]; exact nilI _, hb1⟩
  | true =>
    cases hI : isPlc G.length t with
    | false =>
      have HF : Hid (effL G t = []) := by show _ = _; rw [HM.out, hI]; rfl
      rw [hI] at HP
      clear hV hI HM
      go_enter Try.func11, Try.ntmps11
      go_wp2_with fail
      refine (HV.out _ h).mono ?_
      rintro e w1 ⟨rfl, hb1⟩
      go_wp2_with fail
      refine (HP.out _).mono ?_
      rintro e w2 ⟨rfl, rfl⟩
      go_wp2
      go_ret
      exact ⟨none, 0, by rw [HF.out]; rfl, by rw [HF.out]; exact nilI _, hb1⟩
    | true =>
      have HF : Hid (effL G t = efN G t G.length) := by show _ = _; rw [HM.out, hI]; rfl
      rw [hI] at HP
      have hok := ok_of hV
      have hlen := hok.len
      have ht : 0 ≤ t ∧ t < G.length := by simpa [isPlc] using hI
      have HG : Hid (∀ w', Below w.heap.size w w' → Nds w' a cap G) := fun w' hb => h.later hb
      have HS : Hid (∀ w', Nds w' a cap G → Calls Try.prog 23 #[.slice a G.length cap] w' fun e w'' => ∃ b, e = .returned (.slice (some ⟨b, 0, none⟩) G.length G.length) ∧ RowAt w'' b 3 (ci (sums G G.length)) ∧ w'.heap.size ≤ b ∧ Below w'.heap.size w' w'') := fun w' h => pclaims a cap G w' h hok
      clear hV hI HM
      go_enter Try.func11, Try.ntmps11
      go_wp2_with fail
      refine (HV.out _ h).mono ?_
      rintro e w1 ⟨rfl, hb1⟩
      go_wp2_with fail
      refine (HP.out _).mono ?_
      rintro e w2 ⟨rfl, rfl⟩
      go_wp2_with fail
      refine (HS.out _ (HG.out _ hb1)).mono ?_
      rintro e w3 ⟨bs, rfl, hs3, hbs, hb3⟩
      have hb3' := bel_trans hb1 hb3
      have hbs' : w.heap.size ≤ bs := Nat.le_trans hb1.size hbs
      go_wp2_with (at_make; refine wpList_make_row _ rfl (.tmp 21) (.tmp 21) 25 rfl 3 (.int .i64 0) 8 Try.underlying25 info3 rfl .i64 .i64 _ _ G.length rfl rfl rfl rfl (by omega) (by omega) ?_; intro w4 hr4 hz4 hb4)
      rw [ci_zero, ← effRow_zero G t] at hr4
      have hs4 := hs3.later hb4
      have hb4' := bel_trans hb3' hb4
      have hbe : w.heap.size ≤ w3.heap.size := hb3'.size
      have hne : bs ≠ w3.heap.size := by have := hs3.lt; omega
      generalize w3.heap.size = be at *
      clear h hb1 hb3 hb3' hb4 hz4 hs3 hbs
      go_loopw [25] (fun s25 wr => ∃ j : Nat, j ≤ G.length ∧ s25 = .int .i64 j ∧ RowAt wr be 3 (ci (effRow G t j)) ∧ RowAt wr bs 3 (ci (sums G G.length)) ∧ Below w.heap.size w wr) (fun s25 _ => G.length - (intOf s25).toNat)
      case atStart => exact ⟨0, by omega, rfl, hr4, hs4, hb4'⟩
      case round =>
        clear hr4 hs4 hb4'
        obtain ⟨j, hj, rfl, hr, hs, hb⟩ := hrel
        have hg := HG.out _ hb
        by_cases hjl : j < G.length
        · obtain ⟨b, off, rfl, c0, c1, c2⟩ := hg.get hjl
          obtain ⟨x, hx⟩ : ∃ x, x = G.getD j nz := ⟨_, rfl⟩
          have d0 : par G j = x.p := by rw [hx]; rfl
          have d1 : use G j = x.u := by rw [hx]; rfl
          have d2 : own G j = x.o := by rw [hx]; rfl
          have d3 : low G j = min x.o x.u := by unfold low; rw [d1, d2]
          have hlo := par_lo hok hjl
          have hlw := low_le hok j
          rw [d0] at c0 hlo
          rw [d1] at c1
          rw [d2] at c2
          obtain ⟨p, u, o⟩ := x
          simp only at d0 d1 d2 d3 c0 c1 c2 hlo
          obtain ⟨M, hM⟩ : ∃ M, M = low G j := ⟨_, rfl⟩
          rw [← hM] at hlw d3
          obtain ⟨w5, hw5, hx5, hB5, hb5⟩ := boxOn 38 w wr ⟨p, u, o⟩ hb
          simp only at hw5
          have hr5 := hr.later hb5
          have hs5 := hs.later hb5
          have hg5 := HG.out _ hB5
          obtain ⟨k0, k1, k2⟩ := hx5.tri
          simp only at k0 k1 k2
          have HW : Hid (∀ w', Nds w' (some ⟨b, off, none⟩) cap G → Calls Try.prog 24 #[.slice (some ⟨b, off, none⟩) G.length cap, .int .i64 j, .int .i64 t] w' fun e w'' => e = .returned (.bool (blw G t j)) ∧ Below w'.heap.size w' w'') := fun w' h => pwithin _ cap G j t w' h hok hjl
          have HC : Hid (∀ w', Calls Try.prog 25 #[.agg #[.int .i64 p, .int .i64 u, .int .i64 o]] w' fun e w'' => e = .returned (.int .i64 M) ∧ Below w'.heap.size w' w'') := by
            intro w'
            have := pclaim ⟨p, u, o⟩ w'
            rw [d3]
            exact this
          by_cases hjt : (j : Int) = t
          · have hd : ((j : Int) == t) = true := by simpa using hjt
            have HR : Hid (∀ W, RowAt W be 3 (ci (effRow G t j)) → RowAt W be 3 (ci (effRow G t (j + 1)))) := by
              intro W hW
              rw [← effRow_none G t hjl (eff_none G (.inl hjt))]
              exact hW
            clear hx d0 d1 d2 d3 hM hlw hjt hr hs
            go_wp2_with fail
            rw [← hw5]
            exact ⟨⟨j + 1, by omega, by go_num, HR.out _ hr5, hs5, hB5⟩, by simp [intOf]; omega⟩
          · have hd : ((j : Int) == t) = false := by simpa using hjt
            cases hbl : blw G t j with
            | false =>
              rw [hbl] at HW
              have HR : Hid (∀ W, RowAt W be 3 (ci (effRow G t j)) → RowAt W be 3 (ci (effRow G t (j + 1)))) := by
                intro W hW
                rw [← effRow_none G t hjl (eff_none G (.inr hbl))]
                exact hW
              clear hx d0 d1 d2 d3 hM hlw hjt hr hs
              go_wp2_with fail
              rw [← hw5]
              refine (HW.out _ hg5).mono ?_
              rintro e w6 ⟨rfl, hb6⟩
              go_wp2
              exact ⟨⟨j + 1, by omega, by go_num, HR.out _ (hr5.later hb6), hs5.later hb6, bel_trans hB5 hb6⟩, by simp [intOf]; omega⟩
            | true =>
              rw [hbl] at HW
              by_cases hpt : p = t
              · have hd2 : (p == t) = true := by simpa using hpt
                have HR : Hid (∀ W, RowAt W be 3 (ci (effRow G t j)) → RowAt (W.setCell ⟨be, j, none⟩ (.int .i64 M)) be 3 (ci (effRow G t (j + 1)))) := by
                  intro W hW
                  rw [← effRow_set G t hjl, eff_top G hjt hbl (d0.trans hpt), ← hM, ← ci_set]
                  exact hW.set j _
                clear hx d0 d1 d2 d3 hM hlw hjt hpt hr hs
                go_wp2_with fail
                rw [← hw5]
                refine (HW.out _ hg5).mono ?_
                rintro e w6 ⟨rfl, hb6⟩
                have hx6 := hx5.later hb6
                have hr6 := hr5.later hb6
                have hs6 := hs5.later hb6
                have hB6 := bel_trans hB5 hb6
                obtain ⟨m0, m1, m2⟩ := hx6.tri
                simp only at m0 m1 m2
                go_wp2_with fail
                refine (HC.out _).mono ?_
                rintro e w7 ⟨rfl, hb7⟩
                have hr7 := hr6.later hb7
                have hs7 := hs6.later hb7
                have hB7 := bel_trans hB6 hb7
                have s7 : w7.cell? ⟨be, j, none⟩ = some (.int .i64 (at0 (effRow G t j) j)) := by
                  rw [hr7.cell]
                  exact ci_get _ _ (by rw [effRow_len G t hj]; exact hjl)
                have f7 := hr7.frozen j
                go_wp2
                exact ⟨⟨j + 1, by omega, by go_num, HR.out _ hr7, hs7.other hne _ _, hB7.setCell (p := ⟨be, j, none⟩) hbe _⟩, by simp [intOf]; omega⟩
              · have hd2 : (p == t) = false := by simpa using hpt
                have hj0 : j ≠ 0 := fun e => by
                  subst e
                  rw [blw_up hok hjl hjt, hok.root hjl, blw_neg (by omega)] at hbl
                  cases hbl
                have hp0 : 0 ≤ p := by rw [← d0]; exact (hok.up j (by omega) hjl).1
                obtain ⟨q, rfl⟩ := Int.eq_ofNat_of_zero_le hp0
                have hqj : q < j := by omega
                have hE := eff_lo hok t (i := q) (by omega)
                have hEl := low_le hok q
                have hS0 := sib_nonneg hok q G.length
                have hS1 := sib_le hok q G.length
                have hprt : eff G t j = prt M (eff G t q) (sib G q G.length) := by
                  have := eff_of hok hjl hjt hbl (by rw [d0]; exact hpt)
                  rw [d0, Int.toNat_natCast, ← hM] at this
                  exact this
                have hEa : at0 (effRow G t j) q = eff G t q := effRow_at G t hqj
                have hSa : at0 (sums G G.length) q = sib G q G.length := sums_at G G.length q (by omega)
                obtain ⟨E, hEe⟩ : ∃ E, E = eff G t q := ⟨_, rfl⟩
                obtain ⟨S, hSe⟩ : ∃ S, S = sib G q G.length := ⟨_, rfl⟩
                rw [← hEe] at hE hprt hEa
                rw [← hSe] at hS0 hS1 hprt hSa
                obtain ⟨R, hR⟩ : ∃ R, R = prt M E S := ⟨_, rfl⟩
                rw [← hR] at hprt
                have hql : q < G.length := by omega
                have HY : Hid (∀ W, RowAt W bs 3 (ci (sums G G.length)) → W.cell? ⟨bs, q, none⟩ = some (.int .i64 S)) := by
                  intro W hW
                  rw [hW.cell, ci_get _ _ (by rw [sums_len]; exact hql), hSa]
                have HD : Hid (∀ w', Calls Try.prog 26 #[.int .i64 M, .int .i64 E, .int .i64 S] w' fun e w'' => e = .returned (.int .i64 R) ∧ Below w'.heap.size w' w'') := by
                  intro w'
                  have := pportion M E S w' ⟨by omega, by omega⟩ ⟨by omega, by omega⟩ ⟨by omega, by omega⟩
                  rw [← hR] at this
                  exact this
                have HN : Hid ((effRow G t j).set j R = effRow G t (j + 1)) := by
                  show _ = _
                  rw [← effRow_set G t hjl, hprt]
                clear hx d0 d1 d2 d3 hM hlw hjt hpt hs hprt hE hEl hS0 hS1 hSa hEe hSe hR hp0 hlo
                go_wp2_with fail
                rw [← hw5]
                refine (HW.out _ hg5).mono ?_
                rintro e w6 ⟨rfl, hb6⟩
                have hx6 := hx5.later hb6
                have hr6 := hr5.later hb6
                have hs6 := hs5.later hb6
                have hB6 := bel_trans hB5 hb6
                clear hx5 hr5 hs5 hB5 hb6 hg5 hb5 k0 k1 k2 hw5 HW c0 c1 c2
                obtain ⟨m0, m1, m2⟩ := hx6.tri
                simp only at m0 m1 m2
                have hbx : wr.heap.size ≠ be := by have := hr.lt; omega
                go_wp2_with fail
                generalize wr.heap.size = bx at *
                obtain ⟨F, hF⟩ : ∃ F : World → Value, F = fun W => (W.cell? ⟨be, j, none⟩).getD undef := ⟨_, rfl⟩
                have HFc : Hid (∀ W v, W.cell? ⟨be, j, none⟩ = some v → W.cell? ⟨be, j, none⟩ = some (F W)) := fun W v h => by rw [hF]; simp [h]
                obtain ⟨PK, hPK⟩ : ∃ PK : World → Prop, PK = fun W => (RowAt W bx 38 (nc ⟨q, u, o⟩) ∧ (∃ N : List Int, RowAt W be 3 (ci N) ∧ N.length = G.length ∧ at0 N q = E ∧ N.set j R = effRow G t (j + 1)) ∧ RowAt W bs 3 (ci (sums G G.length)) ∧ Below w.heap.size w W) := ⟨_, rfl⟩
                have hPW : ∀ W, PK W ↔ (RowAt W bx 38 (nc ⟨q, u, o⟩) ∧ (∃ N : List Int, RowAt W be 3 (ci N) ∧ N.length = G.length ∧ at0 N q = E ∧ N.set j R = effRow G t (j + 1)) ∧ RowAt W bs 3 (ci (sums G G.length)) ∧ Below w.heap.size w W) := fun W => by rw [hPK]
                have hP6 : PK w6 := (hPW _).2 ⟨hx6, ⟨_, hr6, effRow_len G t hj, hEa, HN.out⟩, hs6, hB6⟩
                have hlt : ∀ W W', PK W → Below W.heap.size W W' → PK W' := by
                  intro W W' h hb
                  obtain ⟨g1, ⟨N, g2, g3⟩, g4, g5⟩ := (hPW _).1 h
                  exact (hPW _).2 ⟨g1.later hb, ⟨N, g2.later hb, g3⟩, g4.later hb, bel_trans g5 hb⟩
                have HS : Hid (∀ W, PK W → (W.cell? ⟨bx, 0, none⟩ = some (.int .i64 q) ∧ W.cell? ⟨bx, 1, none⟩ = some (.int .i64 u) ∧ W.cell? ⟨bx, 2, none⟩ = some (.int .i64 o) ∧ W.cell? ⟨be, q, none⟩ = some (.int .i64 E) ∧ W.cell? ⟨bs, q, none⟩ = some (.int .i64 S) ∧ W.cell? ⟨be, j, none⟩ = some (F W) ∧ W.frozen? ⟨be, j, none⟩ = false)) := by
                  intro W hW
                  obtain ⟨g1, ⟨N, g2, gl, ge, -⟩, g3, -⟩ := (hPW _).1 hW
                  obtain ⟨v0, v1, v2⟩ := g1.tri
                  refine ⟨v0, v1, v2, ?_, HY.out _ g3, HFc.out _ (.int .i64 (at0 N j)) ?_, g2.frozen j⟩
                  · rw [g2.cell, ci_get _ _ (by omega), ge]
                  · rw [g2.cell, ci_get _ _ (by omega)]
                have HC2 : Hid (∀ W, PK W → Calls Try.prog 25 #[.agg #[.int .i64 q, .int .i64 u, .int .i64 o]] W fun e W' => e = .returned (.int .i64 M) ∧ (W'.cell? ⟨bx, 0, none⟩ = some (.int .i64 q) ∧ W'.cell? ⟨bx, 1, none⟩ = some (.int .i64 u) ∧ W'.cell? ⟨bx, 2, none⟩ = some (.int .i64 o) ∧ W'.cell? ⟨be, q, none⟩ = some (.int .i64 E) ∧ W'.cell? ⟨bs, q, none⟩ = some (.int .i64 S) ∧ W'.cell? ⟨be, j, none⟩ = some (F W') ∧ W'.frozen? ⟨be, j, none⟩ = false) ∧ PK W') := by
                  intro W hW
                  refine (HC.out W).mono ?_
                  rintro e W' ⟨rfl, hb'⟩
                  have := hlt _ _ hW hb'
                  exact ⟨rfl, HS.out _ this, this⟩
                have HD2 : Hid (∀ W, PK W → Calls Try.prog 26 #[.int .i64 M, .int .i64 E, .int .i64 S] W fun e W' => e = .returned (.int .i64 R) ∧ (W'.cell? ⟨bx, 0, none⟩ = some (.int .i64 q) ∧ W'.cell? ⟨bx, 1, none⟩ = some (.int .i64 u) ∧ W'.cell? ⟨bx, 2, none⟩ = some (.int .i64 o) ∧ W'.cell? ⟨be, q, none⟩ = some (.int .i64 E) ∧ W'.cell? ⟨bs, q, none⟩ = some (.int .i64 S) ∧ W'.cell? ⟨be, j, none⟩ = some (F W') ∧ W'.frozen? ⟨be, j, none⟩ = false) ∧ PK W') := by
                  intro W hW
                  refine (HD.out W).mono ?_
                  rintro e W' ⟨rfl, hb'⟩
                  have := hlt _ _ hW hb'
                  exact ⟨rfl, HS.out _ this, this⟩
                have hP6d : PK w6.drew := by
                  obtain ⟨g1, ⟨N, g2, g3⟩, g4, g5⟩ := (hPW _).1 hP6
                  exact (hPW _).2 ⟨g1.drewN 1, ⟨N, g2.drewN 1, g3⟩, g4.drewN 1, below_drawn g5 1⟩
                have HP : Hid (∀ W, PK W → PK (W.setCell ⟨be, j, none⟩ (.int .i64 R)) ∧ RowAt (W.setCell ⟨be, j, none⟩ (.int .i64 R)) be 3 (ci (effRow G t (j + 1))) ∧ RowAt (W.setCell ⟨be, j, none⟩ (.int .i64 R)) bs 3 (ci (sums G G.length)) ∧ Below w.heap.size w (W.setCell ⟨be, j, none⟩ (.int .i64 R))) := by
                  intro W hW
                  obtain ⟨g1, ⟨N, g2, gl, ge, gs⟩, g4, g5⟩ := (hPW _).1 hW
                  have h1 := g2.set j (.int .i64 R)
                  have h2 := g4.other hne j (.int .i64 R)
                  have h3 := g5.setCell (p := ⟨be, j, none⟩) hbe (.int .i64 R)
                  rw [ci_set] at h1
                  refine ⟨(hPW _).2 ⟨g1.other hbx j _, ⟨_, h1, by simpa using gl, ?_, ?_⟩, h2, h3⟩, by rw [← gs]; exact h1, h2, h3⟩
                  · rw [← ge]
                    unfold at0
                    simp only [List.getD_eq_getElem?_getD]
                    rw [List.getElem?_set_ne (by omega)]
                  · rw [List.set_set]; exact gs
                have HST : Hid (∀ W, PK W → ((W.setCell ⟨be, j, none⟩ (.int .i64 R)).cell? ⟨bx, 0, none⟩ = some (.int .i64 q) ∧ (W.setCell ⟨be, j, none⟩ (.int .i64 R)).cell? ⟨bx, 1, none⟩ = some (.int .i64 u) ∧ (W.setCell ⟨be, j, none⟩ (.int .i64 R)).cell? ⟨bx, 2, none⟩ = some (.int .i64 o) ∧ (W.setCell ⟨be, j, none⟩ (.int .i64 R)).cell? ⟨be, q, none⟩ = some (.int .i64 E) ∧ (W.setCell ⟨be, j, none⟩ (.int .i64 R)).cell? ⟨bs, q, none⟩ = some (.int .i64 S) ∧ (W.setCell ⟨be, j, none⟩ (.int .i64 R)).cell? ⟨be, j, none⟩ = some (F (W.setCell ⟨be, j, none⟩ (.int .i64 R))) ∧ (W.setCell ⟨be, j, none⟩ (.int .i64 R)).frozen? ⟨be, j, none⟩ = false ∧ PK (W.setCell ⟨be, j, none⟩ (.int .i64 R)))) := by
                  intro W hW
                  have h1 := (HP.out W hW).1
                  obtain ⟨v0, v1, v2, v3, v4, v5, v6⟩ := HS.out _ h1
                  exact ⟨v0, v1, v2, v3, v4, v5, v6, h1⟩
                obtain ⟨x0, x1, x2, x3, x4, x5, x6⟩ := HS.out _ hP6
                have HDR : Hid (w6.drew.cell? ⟨bx, 0, none⟩ = some (.int .i64 q) ∧ w6.drew.cell? ⟨bx, 1, none⟩ = some (.int .i64 u) ∧ w6.drew.cell? ⟨bx, 2, none⟩ = some (.int .i64 o) ∧ w6.drew.cell? ⟨be, q, none⟩ = some (.int .i64 E) ∧ w6.drew.cell? ⟨bs, q, none⟩ = some (.int .i64 S) ∧ w6.drew.cell? ⟨be, j, none⟩ = some (F w6.drew) ∧ w6.drew.frozen? ⟨be, j, none⟩ = false ∧ PK w6.drew) := by
                  obtain ⟨v0, v1, v2, v3, v4, v5, v6⟩ := HS.out _ hP6d
                  exact ⟨v0, v1, v2, v3, v4, v5, v6, hP6d⟩
                clear hPK hx6 hr6 hs6 hB6 HC HD HY hP6 hF HFc hPW hlt HS HN hEa
                go_region_held3 (fun w' => w'.cell? ⟨bx, 0, none⟩ = some (.int .i64 q) ∧ w'.cell? ⟨bx, 1, none⟩ = some (.int .i64 u) ∧ w'.cell? ⟨bx, 2, none⟩ = some (.int .i64 o) ∧ w'.cell? ⟨be, q, none⟩ = some (.int .i64 E) ∧ w'.cell? ⟨bs, q, none⟩ = some (.int .i64 S) ∧ w'.cell? ⟨be, j, none⟩ = some (F w') ∧ w'.frozen? ⟨be, j, none⟩ = false ∧ PK w') (first | (exact HST.out _ (by assumption)) | (exact HDR.out) | go_keep)
                  ((first | (go_at_call 25; refine (HC2.out _ (by assumption)).mono ?_; rintro e w7 ⟨rfl, ⟨q0, q1, q2, q3, q4, q5, q6⟩, hP7⟩) | (go_at_call 26; refine (HD2.out _ (by assumption)).mono ?_; rintro e w8 ⟨rfl, ⟨q0, q1, q2, q3, q4, q5, q6⟩, hP8⟩)))
                all_goals
                  obtain ⟨-, z1, z2, z3⟩ := HP.out _ hP8
                  clear HC2 HD2 HST HDR
                  go_wp2
                  exact ⟨⟨j + 1, by omega, by go_num, z1, z2, z3⟩, by simp [intOf]; omega⟩
        · have hlenj : j = G.length := by omega
          subst hlenj
          rw [effRow_end] at hr
          clear hg
          go_wp2
          go_ret
          refine ⟨some ⟨be, 0, none⟩, G.length, ?_, ?_, hb⟩
          · rw [HF.out, efN_len]; rfl
          · rw [HF.out]; exact Ints.ofRow hr
end Go.Proofs.Ytimgpikgkbjliaa
