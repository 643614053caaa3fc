/-
  The contract of Over.
-/
import Derived.Test.YtimgpikgkbjliaaP7
namespace Go.Proofs.Ytimgpikgkbjliaa
open Go.RowKit

/-- How much one is above what is protected. -/
def ov (l : List Nd) (N : List Int) (t : Int) (g : Nat) : Int := if blw l t g && !hd l (at0 N) t g then max 0 (use l g - at0 N g) else 0
def ovN (l : List Nd) (N : List Int) (t : Int) (n : Nat) : List Int := (List.range n).map fun g => ov l N t g
def overL (l : List Nd) (N : List Int) (t : Int) : List Int := if may l N.length t then ovN l N t l.length else []
def ovRow (l : List Nd) (N : List Int) (t : Int) (j : Nat) : List Int := ovN l N t j ++ List.replicate (l.length - j) 0
theorem ovN_len (l : List Nd) (N : List Int) (t : Int) (n : Nat) : (ovN l N t n).length = n := by simp [ovN]
theorem ovN_succ (l : List Nd) (N : List Int) (t : Int) (n : Nat) : ovN l N t (n + 1) = ovN l N t n ++ [ov l N t n] := by simp [ovN, List.range_succ]
theorem ovRow_len (l : List Nd) (N : List Int) (t : Int) {j : Nat} (h : j ≤ l.length) : (ovRow l N t j).length = l.length := by
  simp [ovRow, ovN_len]; omega
theorem ovRow_zero (l : List Nd) (N : List Int) (t : Int) : ovRow l N t 0 = List.replicate l.length 0 := by simp [ovRow, ovN]
theorem ovRow_end (l : List Nd) (N : List Int) (t : Int) : ovRow l N t l.length = ovN l N t l.length := by simp [ovRow]
theorem ovRow_set (l : List Nd) (N : List Int) (t : Int) {j : Nat} (h : j < l.length) : (ovRow l N t j).set j (ov l N t j) = ovRow l N t (j + 1) := by
  have hl := ovN_len l N t j
  have e : l.length - j = (l.length - (j + 1)) + 1 := by omega
  unfold ovRow
  rw [List.set_append, if_neg (by omega), hl, Nat.sub_self, e, List.replicate_succ, List.set_cons_zero, ovN_succ, List.append_assoc]
  rfl
theorem ovRow_none (l : List Nd) (N : List Int) (t : Int) {j : Nat} (h : j < l.length) (h0 : ov l N t j = 0) : ovRow l N t j = ovRow l N t (j + 1) := by
  have e : l.length - j = (l.length - (j + 1)) + 1 := by omega
  unfold ovRow
  rw [e, List.replicate_succ, ovN_succ, List.append_assoc, h0]
  rfl

set_option maxRecDepth 100000 in
set_option maxHeartbeats 8000000 in
theorem pover (a : Option Addr) (cap : Nat) (G : List Nd) (ae : Option Addr) (ce : Nat) (N : List Int) (t : Int) (w : World) (h : Nds w a cap G) (hE : Ints w ae N) (hL : G.length ≤ 1000000) (hN : N.length ≤ 1000000)
    (hbd : ∀ i, i < N.length → 0 ≤ at0 N i ∧ at0 N i ≤ 2199023255552) :
    Calls Try.prog 18 #[.slice a G.length cap, .slice ae N.length ce, .int .i64 t] w fun e w' => ∃ a' c', e = .returned (.slice a' (overL G N t).length c') ∧ Ints w' a' (overL G N t) ∧ Below w.heap.size w w' := by
  obtain ⟨V, hV⟩ : ∃ V, may G N.length t = V := ⟨_, rfl⟩
  have HBD : Hid (∀ i, i < N.length → 0 ≤ at0 N i ∧ at0 N i ≤ 2199023255552) := hbd
  clear hbd
  have HV : Hid (Calls Try.prog 32 #[.slice a G.length cap, .slice ae N.length ce, .int .i64 t] w fun e w' => e = .returned (.bool V) ∧ Below w.heap.size w w') := by
    have := pmay a cap G ae N.length ce t w h hL (by omega)
    rw [hV] at this
    exact this
  have HM : Hid (overL G N t = if V then ovN G N t G.length else []) := by show _ = _; rw [← hV]; rfl
  cases V with
  | false =>
    have HF : Hid (overL G N t = []) := by show _ = _; rw [HM.out]; rfl
    clear hV HM
    go_enter Try.func18, Try.ntmps18
    go_wp2_with fail
    refine HV.out.mono ?_
    rintro e w1 ⟨rfl, hb1⟩
    go_wp2
    go_ret
    exact ⟨none, 0, by rw [HF.out]; rfl, by rw [HF.out]; exact ⟨fun j hj => by simp at hj⟩, hb1⟩
  | true =>
    obtain ⟨hok, hNG, ht0, ht1⟩ := may_ok hV
    have HNG : Hid (N.length = G.length) := hNG
    clear hNG
    have HF : Hid (overL G N t = ovN G N t G.length) := by show _ = _; rw [HM.out]; rfl
    have hlen := hok.len
    have HG : Hid (∀ w', Below w.heap.size w w' → Nds w' a cap G) := fun w' hb => h.later hb
    have HJ : Hid (∀ w', Below w.heap.size w w' → Ints w' ae N) := fun w' hb => hE.later hb
    clear hV HM
    go_enter Try.func18, Try.ntmps18
    go_wp2_with fail
    refine HV.out.mono ?_
    rintro e w3 ⟨rfl, hb3⟩
    go_wp2_with (at_make; refine wpList_make_row _ rfl (.tmp 16) (.tmp 16) 25 rfl 3 (.int .i64 0) 8 Try.underlying25 info3 rfl .i64 .i64 _ _ G.length rfl rfl rfl rfl (by omega) (by omega) ?_; intro w4 hr4 hz4 hb4)
    rw [ci_zero, ← ovRow_zero G N t] at hr4
    have hb4' := bel_trans hb3 hb4
    have hbe : w.heap.size ≤ w3.heap.size := hb3.size
    generalize w3.heap.size = be at *
    clear h hE hb3 hb4 hz4
    go_loopw [20] (fun s20 wr => ∃ j : Nat, j ≤ G.length ∧ s20 = .int .i64 j ∧ RowAt wr be 3 (ci (ovRow G N t j)) ∧ Below w.heap.size w wr) (fun s20 _ => G.length - (intOf s20).toNat)
    case atStart => exact ⟨0, by omega, rfl, hr4, hb4'⟩
    case round =>
      clear hr4 hb4'
      obtain ⟨j, hj, rfl, hr, hb⟩ := hrel
      have hg := HG.out _ hb
      by_cases hjl : j < G.length
      · obtain ⟨b, off, rfl, c0, c1, c2⟩ := hg.get hjl
        obtain ⟨x, hx⟩ : ∃ x, x = G.getD j nz := ⟨_, rfl⟩
        have d0 : par G j = x.p := by rw [hx]; rfl
        have d1 : use G j = x.u := by rw [hx]; rfl
        have d2 : own G j = x.o := by rw [hx]; rfl
        rw [d0] at c0
        rw [d1] at c1
        rw [d2] at c2
        have hu := hok.u j
        rw [d1] at hu
        obtain ⟨p, u, o⟩ := x
        simp only at d0 d1 d2 c0 c1 c2 hu
        obtain ⟨w5, hw5, hx5, hB5, hb5⟩ := boxOn 38 w wr ⟨p, u, o⟩ hb
        simp only at hw5
        have hr5 := hr.later hb5
        have hg5 := HG.out _ hB5
        have hbx : wr.heap.size ≠ be := by have := hr.lt; omega
        obtain ⟨B, hB⟩ : ∃ B, blw G t j = B := ⟨_, rfl⟩
        obtain ⟨E, hEd⟩ : ∃ E, hd G (at0 N) t j = E := ⟨_, rfl⟩
        have HW : Hid (∀ w', Nds w' (some ⟨b, off, none⟩) cap G → Calls Try.prog 24 #[.slice (some ⟨b, off, none⟩) G.length cap, .int .i64 j, .int .i64 t] w' fun e w'' => e = .returned (.bool B) ∧ Below w'.heap.size w' w'') := by
          intro w' h
          have := pwithin _ cap G j t w' h hok hjl
          rw [hB] at this
          exact this
        have HD : Hid (∀ w', Nds w' (some ⟨b, off, none⟩) cap G → Ints w' ae N → Calls Try.prog 33 #[.slice (some ⟨b, off, none⟩) G.length cap, .slice ae N.length ce, .int .i64 t, .int .i64 j] w' fun e w'' => e = .returned (.bool E) ∧ Below w'.heap.size w' w'') := by
          intro w' h h2
          have := pheld _ cap G ae ce N t j w' h h2 HNG.out hok hjl
          rw [hEd] at this
          exact this
        have HR0 : Hid ((B && !E) = false → ∀ W, RowAt W be 3 (ci (ovRow G N t j)) → RowAt W be 3 (ci (ovRow G N t (j + 1)))) := by
          intro hBE W hW
          rw [← ovRow_none G N t hjl (by unfold ov; rw [hB, hEd, hBE]; rfl)]
          exact hW
        have HR1 : Hid ((B && !E) = true → ∀ W, RowAt W be 3 (ci (ovRow G N t j)) → RowAt (W.setCell ⟨be, j, none⟩ (.int .i64 (max 0 (u - at0 N j)))) be 3 (ci (ovRow G N t (j + 1)))) := by
          intro hBE W hW
          have : ov G N t j = max 0 (u - at0 N j) := by unfold ov; rw [hB, hEd, hBE, d1]; rfl
          rw [← ovRow_set G N t hjl, this, ← ci_set]
          exact hW.set j _
        obtain ⟨z0, z1⟩ := HBD.out j (by rw [HNG.out]; exact hjl)
        clear hx d0 d1 d2 hr hB hEd
        cases B with
        | false =>
          have HR := HR0.out rfl
          clear HR0 HR1
          go_wp2_with fail
          rw [← hw5]
          refine (HW.out _ hg5).mono ?_
          rintro e w6 ⟨rfl, hb6⟩
          go_wp2
          exact ⟨⟨j + 1, by omega, by go_num, HR _ (hr5.later hb6), bel_trans hB5 hb6⟩, by simp [intOf]; omega⟩
        | true =>
          cases E with
          | true =>
            have HR := HR0.out rfl
            clear HR0 HR1
            go_wp2_with fail
            rw [← hw5]
            refine (HW.out _ hg5).mono ?_
            rintro e w6 ⟨rfl, hb6⟩
            have hB6 := bel_trans hB5 hb6
            go_wp2_with fail
            refine (HD.out _ (HG.out _ hB6) (HJ.out _ hB6)).mono ?_
            rintro e w7 ⟨rfl, hb7⟩
            go_wp2
            exact ⟨⟨j + 1, by omega, by go_num, HR _ ((hr5.later hb6).later hb7), bel_trans hB6 hb7⟩, by simp [intOf]; omega⟩
          | false =>
            have HR : Hid (∀ W, RowAt W be 3 (ci (ovRow G N t j)) → RowAt (W.setCell ⟨be, j, none⟩ (.int .i64 (max 0 (u - at0 N j)))) be 3 (ci (ovRow G N t (j + 1)))) := HR1.out rfl
            clear HR0 HR1
            go_wp2_with fail
            rw [← hw5]
            refine (HW.out _ hg5).mono ?_
            rintro e w6 ⟨rfl, hb6⟩
            have hB6 := bel_trans hB5 hb6
            go_wp2_with fail
            refine (HD.out _ (HG.out _ hB6) (HJ.out _ hB6)).mono ?_
            rintro e w7 ⟨rfl, hb7⟩
            have hB7 := bel_trans hB6 hb7
            have hr7 := (hr5.later hb6).later hb7
            have hx7 := (hx5.later hb6).later hb7
            obtain ⟨be2, offe, rfl, v1⟩ := (HJ.out _ hB7).at' j (by rw [HNG.out]; exact hjl)
            have v1' : w7.cell? ⟨be2, offe + j, none⟩ = some (.int .i64 (at0 N j)) := v1
            obtain ⟨m0, m1, m2⟩ := hx7.tri
            simp only at m0 m1 m2
            have s7 : w7.cell? ⟨be, j, none⟩ = some (.int .i64 (at0 (ovRow G N t j) j)) := by
              rw [hr7.cell]
              exact ci_get _ _ (by rw [ovRow_len G N t hj]; exact hjl)
            have f7 := hr7.frozen j
            obtain ⟨Z, hZ⟩ : ∃ Z, Z = at0 N j := ⟨_, rfl⟩
            rw [← hZ] at v1' HR z0 z1
            have hZl : j < N.length := by rw [HNG.out]; exact hjl
            have e1 : IntKind.i64.wrap (u - Z) = u - Z := by rw [IntKind.wrap_i64]; omega
            clear hZ v1 hw5 hx5 hr5 hB5 hb5 hb6 hB6 hb7 hg5 HW HD
            by_cases hpos : 0 < u - Z
            · have HQ : Hid (max 0 (u - Z) = u - Z) := by show _ = _; omega
              rw [HQ.out] at HR
              go_wp2_with fail
              go_region
              go_wp2
              exact ⟨⟨j + 1, by omega, by go_num, (HR.out _ hr7).drewN 1, below_drawn (hB7.setCell (p := ⟨be, j, none⟩) hbe _) 1⟩, by simp [intOf]; omega⟩
            · have HQ : Hid (max 0 (u - Z) = 0) := by show _ = _; omega
              rw [HQ.out] at HR
              go_wp2_with fail
              go_region
              go_wp2
              exact ⟨⟨j + 1, by omega, by go_num, (HR.out _ hr7).drewN 1, below_drawn (hB7.setCell (p := ⟨be, j, none⟩) hbe _) 1⟩, by simp [intOf]; omega⟩
      · have hlenj : j = G.length := by omega
        subst hlenj
        rw [ovRow_end] at hr
        clear hg
        go_wp2
        go_ret
        refine ⟨some ⟨be, 0, none⟩, G.length, ?_, ?_, hb⟩
        · rw [HF.out, ovN_len]; rfl
        · rw [HF.out]; exact Ints.ofRow hr
end Go.Proofs.Ytimgpikgkbjliaa
