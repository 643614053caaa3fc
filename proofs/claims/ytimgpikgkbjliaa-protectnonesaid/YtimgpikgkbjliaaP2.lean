/-
  The contracts of both Valid.
-/
import Derived.Test.YtimgpikgkbjliaaP1
namespace Go.Proofs.Ytimgpikgkbjliaa
open Go.RowKit

theorem HPar : Hid (∀ (p g : Int) (w : World), Calls Try.prog 29 #[.int .i64 p, .int .i64 g] w fun e w' => e = .returned (.bool (isPar p g)) ∧ w' = w) := ppar
theorem HAmt : Hid (∀ (n : Int) (w : World), Calls Try.prog 30 #[.int .i64 n] w fun e w' => e = .returned (.bool (isAmt n)) ∧ w' = w) := pamt

set_option maxHeartbeats 4000000 in
theorem pvalid (a : Option Addr) (cap : Nat) (L : List Nd) (w : World) (h : Nds w a cap L) (hL : L.length ≤ 140737488355328) :
    Calls Try.prog 14 #[.slice a L.length cap] w fun e w' => e = .returned (.bool (vd L)) ∧ Below w.heap.size w w' := by
  obtain ⟨V, hV⟩ : ∃ V, V = vd L := ⟨_, rfl⟩
  rw [← hV]
  by_cases h64 : 64 < L.length
  · have hd : decide (64 < L.length) = true := by simpa using h64
    have HF : Hid (V = false) := by show _ = _; rw [hV]; exact vd_long h64
    clear hV
    go_enter Try.func14, Try.ntmps14
    go_wp2
    go_ret
    exact ⟨by rw [HF.out]; rfl, Below.refl _ _⟩
  · have hd : decide (64 < L.length) = false := by simpa using h64
    have HN : Hid (∀ j, j < L.length → vd1 j (L.getD j nz) = false → V = false) := fun j h1 h2 => hV.trans (vd_no h1 h2)
    have HY : Hid ((∀ j, j < L.length → vd1 j (L.getD j nz) = true) → V = true) := fun h1 => hV.trans ((vd_end h1).trans (by simpa using h64))
    clear hV
    have hp := HPar
    have ha := HAmt
    go_enter Try.func14, Try.ntmps14
    go_wp2
    go_loopw [10] (fun s10 wr => ∃ j : Nat, j ≤ L.length ∧ s10 = .int .i64 j ∧ Hid (∀ i, i < j → vd1 i (L.getD i nz) = true) ∧ Below w.heap.size w wr) (fun s10 _ => L.length - (intOf s10).toNat)
    case atStart => exact ⟨0, by omega, rfl, (show ∀ i, i < 0 → vd1 i (L.getD i nz) = true from fun i hi => by omega), Below.refl _ _⟩
    case round =>
      obtain ⟨j, hj, rfl, HI, hb⟩ := hrel
      have hr := h.later hb
      clear h
      by_cases hjl : j < L.length
      · obtain ⟨b, off, rfl, c0, c1, c2⟩ := hr.get hjl
        have e1 := vd1_iff j (L.getD j nz)
        obtain ⟨x, hx⟩ : ∃ x, x = L.getD j nz := ⟨_, rfl⟩
        have d0 : par L j = x.p := by rw [hx]; rfl
        have d1 : use L j = x.u := by rw [hx]; rfl
        have d2 : own L j = x.o := by rw [hx]; rfl
        rw [d0] at c0
        rw [d1] at c1
        rw [d2] at c2
        have HV : Hid (vd1 j (L.getD j nz) = (isPar x.p j && (isAmt x.u && isAmt x.o))) := by show _ = _; rw [hx]; exact e1
        clear d0 d1 d2 e1 hx hr
        obtain ⟨w1, hw1, hr1, hB1, -⟩ := boxOn 38 w wr x hb
        go_wp2_with fail
        rw [← hw1]
        clear hw1 c0 c1 c2
        obtain ⟨k0, k1, k2⟩ := hr1.tri
        refine (hp.out _ _ _).mono ?_
        rintro e w2 ⟨rfl, rfl⟩
        cases q0 : isPar x.p j with
        | false =>
          have HF : Hid (V = false) := HN.out j hjl (by rw [HV.out, q0]; rfl)
          clear q0 HV
          go_wp2
          go_ret
          exact ⟨by rw [HF.out]; rfl, hB1⟩
        | true =>
          go_wp2_with fail
          refine (ha.out _ _).mono ?_
          rintro e w3 ⟨rfl, rfl⟩
          cases q1 : isAmt x.u with
          | false =>
            have HF : Hid (V = false) := HN.out j hjl (by rw [HV.out, q0, q1]; rfl)
            clear q0 q1 HV
            go_wp2
            go_ret
            exact ⟨by rw [HF.out]; rfl, hB1⟩
          | true =>
            go_wp2_with fail
            refine (ha.out _ _).mono ?_
            rintro e w4 ⟨rfl, rfl⟩
            cases q2 : isAmt x.o with
            | false =>
              have HF : Hid (V = false) := HN.out j hjl (by rw [HV.out, q0, q1, q2]; rfl)
              clear q0 q1 q2 HV
              go_wp2
              go_ret
              exact ⟨by rw [HF.out]; rfl, hB1⟩
            | true =>
              have HI2 : Hid (∀ i, i < j + 1 → vd1 i (L.getD i nz) = true) := by
                intro i hi
                by_cases e : i = j
                · subst e; rw [HV.out, q0, q1, q2]; rfl
                · exact HI.out i (by omega)
              clear q0 q1 q2 HV
              go_wp2
              exact ⟨⟨j + 1, by omega, by go_num, HI2, hB1⟩, by simp [intOf]; omega⟩
      · have hlen : j = L.length := by omega
        subst hlen
        have HF : Hid (V = true) := HY.out HI.out
        clear hr
        go_wp2
        go_ret
        exact ⟨by rw [HF.out]; rfl, hb⟩

set_option maxHeartbeats 4000000 in
theorem rvalid (a : Option Addr) (cap : Nat) (L : List Nd) (w : World) (h : Nds w a cap L) (hL : L.length ≤ 140737488355328) :
    Calls Try.prog 15 #[.slice a L.length cap] w fun e w' => e = .returned (.bool (vd L)) ∧ Below w.heap.size w w' := by
  obtain ⟨V, hV⟩ : ∃ V, V = vd L := ⟨_, rfl⟩
  rw [← hV]
  have HN : Hid (∀ j, j < L.length → vd1 j (L.getD j nz) = false → V = false) := fun j h1 h2 => hV.trans (vd_no h1 h2)
  have HY : Hid ((∀ j, j < L.length → vd1 j (L.getD j nz) = true) → V = decide (L.length ≤ 64)) := fun h1 => hV.trans (vd_end h1)
  clear hV
  go_enter Try.func15, Try.ntmps15
  go_wp2
  go_loopw [3] (fun s3 wr => ∃ j : Nat, j ≤ L.length ∧ s3 = .int .i64 j ∧ Hid (∀ i, i < j → vd1 i (L.getD i nz) = true) ∧ Below w.heap.size w wr) (fun s3 _ => L.length - (intOf s3).toNat)
  case atStart => exact ⟨0, by omega, rfl, (show ∀ i, i < 0 → vd1 i (L.getD i nz) = true from fun i hi => by omega), Below.refl _ _⟩
  case round =>
    obtain ⟨j, hj, rfl, HI, hb⟩ := hrel
    have hr := h.later hb
    clear h
    by_cases hjl : j < L.length
    · obtain ⟨b, off, rfl, c0, c1, c2⟩ := hr.get hjl
      have e1 := vd1_iff j (L.getD j nz)
      obtain ⟨x, hx⟩ : ∃ x, x = L.getD j nz := ⟨_, rfl⟩
      have d0 : par L j = x.p := by rw [hx]; rfl
      have d1 : use L j = x.u := by rw [hx]; rfl
      have d2 : own L j = x.o := by rw [hx]; rfl
      rw [d0] at c0
      rw [d1] at c1
      rw [d2] at c2
      have HV : Hid (vd1 j (L.getD j nz) = (isPar x.p j && (isAmt x.u && isAmt x.o))) := by show _ = _; rw [hx]; exact e1
      clear d0 d1 d2 e1 hx hr
      have hbad : ∀ c : Bool, (isPar x.p j && (isAmt x.u && isAmt x.o)) = c → c = false → V = false := fun c h1 h2 => HN.out j hjl (by rw [HV.out, h1, h2])
      obtain ⟨p, u, o⟩ := x
      simp only at HV hbad c0 c1 c2
      have HB : Hid (∀ c : Bool, (isPar p j && (isAmt u && isAmt o)) = c → c = false → V = false) := hbad
      clear hbad
      obtain ⟨w1, hw1, hr1, hB1, -⟩ := boxOn 46 w wr ⟨p, u, o⟩ hb
      simp only at hw1
      have hgood : isPar p j = true → isAmt u = true → isAmt o = true → Hid (∀ i, i < j + 1 → vd1 i (L.getD i nz) = true) := by
        intro q0 q1 q2 i hi
        by_cases e : i = j
        · subst e; rw [HV.out, q0, q1, q2]; rfl
        · exact HI.out i (by omega)
      have HG : Hid (isPar p j = true → isAmt u = true → isAmt o = true → Hid (∀ i, i < j + 1 → vd1 i (L.getD i nz) = true)) := hgood
      clear hgood
      obtain ⟨k0, k1, k2⟩ := hr1.tri
      simp only at k0 k1 k2
      have bad : ∀ c : Bool, (isPar p j && (isAmt u && isAmt o)) = c → c = false → Hid (V = false) := HB.out
      -- the tests, one by one
      have Hz : Hid (isPar p j = true → (((j : Int) == 0) = true ∧ (p != -1) = false ∧ decide (0 < j) = false) ∨ (((j : Int) == 0) = false ∧ decide (0 < j) = true ∧ decide (p < 0) = false ∧ decide ((j : Int) ≤ p) = false)) := by
        intro q
        by_cases hz : j = 0
        · subst hz
          have : p = -1 := by simpa [isPar] using q
          subst this
          exact .inl ⟨rfl, rfl, rfl⟩
        · have hz1 : ((j : Int) == 0) = false := by simpa using hz
          have hq : 0 ≤ p ∧ p < j := by simpa [isPar, hz] using q
          exact .inr ⟨hz1, by simp; omega, by simp; omega, by simp; omega⟩
      have Hn : Hid (isPar p j = false → (((j : Int) == 0) = true ∧ (p != -1) = true) ∨ (((j : Int) == 0) = false ∧ decide (0 < j) = true ∧ decide (p < 0) = true) ∨ (((j : Int) == 0) = false ∧ decide (0 < j) = true ∧ decide (p < 0) = false ∧ decide ((j : Int) ≤ p) = true)) := by
        intro q
        by_cases hz : j = 0
        · subst hz
          have : ¬ p = -1 := fun e => by simp [isPar, e] at q
          exact .inl ⟨rfl, by simpa using this⟩
        · have hz1 : ((j : Int) == 0) = false := by simpa using hz
          have hq : ¬ (0 ≤ p ∧ p < j) := fun e => by simp [isPar, hz, e] at q
          by_cases hp0 : p < 0
          · exact .inr (.inl ⟨hz1, by simp; omega, by simpa using hp0⟩)
          · exact .inr (.inr ⟨hz1, by simp; omega, by simpa using hp0, by simp; omega⟩)
      have Ha : Hid (∀ n, isAmt n = true → decide (n < 0) = false ∧ decide (1099511627776 < n) = false) := by
        intro n q
        have : 0 ≤ n ∧ n ≤ 1099511627776 := by simpa [isAmt] using q
        exact ⟨by simp; omega, by simp; omega⟩
      have Hb : Hid (∀ n, isAmt n = false → decide (n < 0) = true ∨ (decide (n < 0) = false ∧ decide (1099511627776 < n) = true)) := by
        intro n q
        have : ¬ (0 ≤ n ∧ n ≤ 1099511627776) := fun e => by simp [isAmt, e] at q
        by_cases h0 : n < 0
        · exact .inl (by simpa using h0)
        · exact .inr ⟨by simpa using h0, by simp; omega⟩
      rw [hw1] at k0 k1 k2
      cases q0 : isPar p j with
      | false =>
        have HF : Hid (V = false) := bad _ rfl (by rw [q0]; rfl)
        have hz := Hn.out q0
        clear bad Hz Hn Ha Hb HG HB HV q0
        rcases hz with ⟨t1, t2⟩ | ⟨t1, t2, t3⟩ | ⟨t1, t2, t3, t4⟩
        all_goals
          go_wp2
          go_ret
          exact ⟨by rw [HF.out]; rfl, by rw [← hw1]; exact hB1⟩
      | true =>
        have hz := Hz.out q0
        cases q1 : isAmt u with
        | false =>
          have HF : Hid (V = false) := bad _ rfl (by rw [q0, q1]; rfl)
          have hu := Hb.out u q1
          clear bad Hz Hn Ha Hb HG HB HV q0 q1
          rcases hz with ⟨t1, t2, t3⟩ | ⟨t1, t2, t3, t4⟩ <;> rcases hu with u1 | ⟨u1, u2⟩
          all_goals
            go_wp2
            go_ret
            exact ⟨by rw [HF.out]; rfl, by rw [← hw1]; exact hB1⟩
        | true =>
          obtain ⟨u1, u2⟩ := Ha.out u q1
          cases q2 : isAmt o with
          | false =>
            have HF : Hid (V = false) := bad _ rfl (by rw [q0, q1, q2]; rfl)
            have hu := Hb.out o q2
            clear bad Hz Hn Ha Hb HG HB HV q0 q1 q2
            rcases hz with ⟨t1, t2, t3⟩ | ⟨t1, t2, t3, t4⟩ <;> rcases hu with u3 | ⟨u3, u4⟩
            all_goals
              go_wp2
              go_ret
              exact ⟨by rw [HF.out]; rfl, by rw [← hw1]; exact hB1⟩
          | true =>
            obtain ⟨u3, u4⟩ := Ha.out o q2
            have HI2 := HG.out q0 q1 q2
            clear bad Hz Hn Ha Hb HG HB HV q0 q1 q2
            rcases hz with ⟨t1, t2, t3⟩ | ⟨t1, t2, t3, t4⟩
            all_goals
              go_wp2
              exact ⟨⟨j + 1, by omega, by go_num, HI2, by rw [← hw1]; exact hB1⟩, by simp [intOf]; omega⟩
    · have hlen : j = L.length := by omega
      subst hlen
      have HF : Hid (V = decide (L.length ≤ 64)) := HY.out HI.out
      have hd : decide ((L.length : Int) < (L.length : Int)) = false := by simp
      clear hr
      go_wp2
      go_ret
      refine ⟨?_, hb⟩
      rw [HF.out]
      by_cases h64 : L.length ≤ 64
      · simp; omega
      · simp; omega
end Go.Proofs.Ytimgpikgkbjliaa
