/-
  The contract of the document's Add.
-/
import Derived.Test.YtfmgmelgfnppkaaR4
namespace Go.Proofs.Ytfmgmelgfnppkaa
open Go.RowKit

theorem ins_low {x : En} {M : List En} (h : ∀ y ∈ M, y.i < x.i) : ins x M = M ++ [x] := by
  unfold ins
  rw [List.filter_eq_self.2 (fun y hy => by simpa using h y hy), List.filter_eq_nil_iff.2 (fun y hy => by have := h y hy; simp; omega)]
theorem ins_snoc {x y : En} {M : List En} (h : x.i < y.i) : ins x (M ++ [y]) = ins x M ++ [y] := by
  unfold ins
  have h1 : ¬ y.i < x.i := by omega
  simp [List.filter_append, h, h1]
/-- What has been laid when k are behind. -/
def laid (x : En) (L : List En) (k : Nat) (p : Bool) : List En := if p then ins x (L.take k) else L.take k
/-- Has it been put? -/
def Put (x : En) (L : List En) (k : Nat) (p : Bool) : Prop := if p then ∃ j, j < k ∧ j < L.length ∧ x.i < (L.getD j nz).i else ∀ j, j < k → j < L.length → (L.getD j nz).i < x.i
theorem take_snoc {L : List En} {k : Nat} (hk : k < L.length) : L.take (k + 1) = L.take k ++ [L.getD k nz] := by simp [hk]
theorem put_stay {x : En} {L : List En} (hs : Srt L) {k : Nat} (hk : k < L.length) (h : Put x L k true) : Put x L (k + 1) true ∧ laid x L (k + 1) true = laid x L k true ++ [L.getD k nz] := by
  obtain ⟨j, h1, h2, h3⟩ := h
  refine ⟨⟨j, by omega, h2, h3⟩, ?_⟩
  simp only [laid, if_true]
  rw [take_snoc hk]
  refine ins_snoc ?_
  have := List.pairwise_iff_getElem.1 hs j k h2 hk h1
  have e1 : L.getD j nz = L[j] := by simp [h2]
  have e2 : L.getD k nz = L[k] := by simp [hk]
  rw [e1] at h3
  rw [e2]
  omega
theorem low_all {x : En} {L : List En} {k : Nat} (h : Put x L k false) : ∀ y ∈ L.take k, y.i < x.i := by
  intro y hy
  obtain ⟨j, hj, rfl⟩ := List.getElem_of_mem hy
  have hj' : j < k ∧ j < L.length := by simp at hj; omega
  have := h j hj'.1 hj'.2
  rw [List.getElem_take]
  simpa [hj'.2] using this
theorem put_now {x : En} {L : List En} {k : Nat} (hk : k < L.length) (h : Put x L k false) (hx : x.i < (L.getD k nz).i) : Put x L (k + 1) true ∧ laid x L (k + 1) true = (laid x L k false ++ [x]) ++ [L.getD k nz] := by
  refine ⟨⟨k, by omega, hk, hx⟩, ?_⟩
  simp only [laid, if_true, Bool.false_eq_true, if_false]
  rw [take_snoc hk, ins_snoc hx, ins_low (low_all h)]
theorem put_not {x : En} {L : List En} {k : Nat} (hk : k < L.length) (h : Put x L k false) (hx : (L.getD k nz).i < x.i) : Put x L (k + 1) false ∧ laid x L (k + 1) false = laid x L k false ++ [L.getD k nz] := by
  refine ⟨fun j hj hjl => ?_, by simp only [laid, Bool.false_eq_true, if_false]; exact take_snoc hk⟩
  by_cases e : j = k
  · subst e; exact hx
  · exact h j (by omega) hjl
theorem laid_end {x : En} {L : List En} {p : Bool} (h : Put x L L.length p) : (if p then laid x L L.length p else laid x L L.length p ++ [x]) = ins x L := by
  cases p with
  | true => simp [laid]
  | false =>
    have := low_all h
    rw [List.take_length] at this
    simp [laid, ins_low this]
theorem laid_len {x : En} {L : List En} (hn : lk L x.i = none) (k : Nat) (p : Bool) : (laid x L k p).length ≤ L.length + 1 := by
  unfold laid
  split
  · have hl : lk (L.take k) x.i = none := lk_none.2 fun y hy => lk_none.1 hn y (List.mem_of_mem_take hy)
    rw [ins_len hl, List.length_take]; omega
  · rw [List.length_take]; omega

set_option maxRecDepth 100000 in
set_option maxHeartbeats 4000000 in
theorem radd (B r : Nat) (L : List En) (i g : Int) (o : Bool) (w : World) (h : RefIs B w r L) (hL : L.length < 900000) :
    Calls Try.prog 30 #[.pointer (some ⟨r, 0, none⟩), .int .i64 i, .int .i64 g, .bool o] w fun e w' => e = .returned (.int .i64 (addE L i g)) ∧ RefIs B w' r (addL L i g o) ∧ Below B w w' := by
  have HF : Hid (Calls Try.prog 31 #[.pointer (some ⟨r, 0, none⟩), .int .i64 i] w fun e w' => e = .returned (.int .i64 (fi L i)) ∧ w' = w) := rfind B r L i w h (by omega)
  have H0 : Hid (RefIs B w r L) := h
  cases hok : (okI i && okI g) with
  | false =>
    have HE : Hid (addE L i g = 1) := by show _ = _; unfold addE; rw [if_pos hok]
    have HB : Hid (addL L i g o = L) := by show _ = _; simp [addL, HE.out]
    have hway : decide (i < 0) = true ∨ (decide (i < 0) = false ∧ decide (16777216 < i) = true) ∨ (decide (i < 0) = false ∧ decide (16777216 < i) = false ∧ decide (g < 0) = true) ∨ (decide (i < 0) = false ∧ decide (16777216 < i) = false ∧ decide (g < 0) = false ∧ decide (16777216 < g) = true) := by
      simp only [okI, top, Bool.and_eq_false_iff, decide_eq_false_iff_not] at hok
      simp only [decide_eq_true_eq, decide_eq_false_iff_not]
      omega
    clear hok h
    rcases hway with q1 | ⟨q1, q2⟩ | ⟨q1, q2, q3⟩ | ⟨q1, q2, q3, q4⟩
    all_goals
      go_enter Try.func30, Try.ntmps30
      go_wp2
      go_ret
      exact ⟨by rw [HE.out]; rfl, by rw [HB.out]; exact H0.out, Below.refl _ _⟩
  | true =>
    have hok2 := hok
    simp only [Bool.and_eq_true, okI_iff] at hok2
    obtain ⟨⟨b1, b2⟩, b3, b4⟩ := hok2
    have q1 : decide (i < 0) = false := by simpa using b1
    have q2 : decide (16777216 < i) = false := by simpa using b2
    have q3 : decide (g < 0) = false := by simpa using b3
    have q4 : decide (16777216 < g) = false := by simpa using b4
    rcases fi_cases h.ok.srt i with ⟨e1, e2⟩ | ⟨k, hk, e1, e2⟩
    · rw [e1] at HF
      have hz : addE L i g = 0 := addE_zero.2 ⟨hok, e2⟩
      have HE : Hid (addE L i g = 0) := hz
      have HO : Hid (Ok (addL L i g o)) := addL_ok h.ok i g o
      obtain ⟨a0, ha0⟩ : ∃ a0 : Int, a0 = if o then 1 else 0 := ⟨_, rfl⟩
      have HA0 : Hid (a0 = if o then 1 else 0) := ha0
      have HB : Hid (addL L i g o = ins ⟨i, g, a0⟩ L) := by show _ = _; unfold addL; rw [if_pos hz, ha0]
      have HLN : Hid (∀ k p, (laid ⟨i, g, a0⟩ L k p).length ≤ L.length + 1) := fun k p => laid_len e2 k p
      have HSR : Hid (Srt L) := h.ok.srt
      have HNL : Hid (∀ j, j < L.length → (L.getD j nz).i ≠ i) := fun j hj => lk_none.1 e2 _ (getD_mem hj)
      have hrl := h.lt
      have hlo := h.lo
      obtain ⟨ar, cap, hc, hat, -, hrow⟩ := h.open
      have HA : Hid (∀ k, k < L.length → ∃ b, ar = some ⟨b, 0, none⟩ ∧ w.cell? ⟨b, k * 3, none⟩ = some (.int .i64 (L.getD k nz).i) ∧ w.cell? ⟨b, k * 3 + 1, none⟩ = some (.int .i64 (L.getD k nz).g) ∧ w.cell? ⟨b, k * 3 + 2, none⟩ = some (.int .i64 (L.getD k nz).a)) := hat
      have HROW : Hid (RowAt w r 30 [.slice ar L.length cap]) := hrow
      clear hok e1 e2 hz b1 b2 b3 b4 ha0 h hat hrow
      cases o
      · have ha0 := HA0.out
        simp at ha0
        subst ha0
        go_enter Try.func30, Try.ntmps30
        go_wp2_with fail
        refine HF.out.mono ?_
        rintro e w1 ⟨rfl, rfl⟩
        go_wp2_with fail
        have hb1 := below_alloc w1 (.cells #[.int .i64 i, .int .i64 g, .int .i64 0] 54)
        have hr1 := RowAt.new w1 #[.int .i64 i, .int .i64 g, .int .i64 0] 54
        go_loopw [10, 11, 12] (fun s10 s11 s12 wr => ∃ (k : Nat) (p : Bool) (M : List En), k ≤ L.length ∧ s12 = .int .i64 k ∧ s11 = .bool p ∧ Put ⟨i, g, 0⟩ L k p ∧ M = laid ⟨i, g, 0⟩ L k p ∧ wr.ownsRow (w1.heap.size + 1) 54 3 s10 M.length (flatN M) ∧ RowAt wr w1.heap.size 54 [.int .i64 i, .int .i64 g, .int .i64 0] ∧ Below w1.heap.size w1 wr ∧ w1.heap.size + 1 ≤ wr.heap.size) (fun _ _ s12 _ => L.length - (intOf s12).toNat)
        case atStart => exact ⟨0, false, [], by omega, rfl, rfl, (fun j hj _ => by omega), rfl, World.ownsRow_nil _ _ _ _, hr1, hb1, by simp⟩
        case round =>
          obtain ⟨k, p, M, hk, rfl, rfl, hput, hM, hown, hbox, hb, hsz⟩ := hrel
          have HP : Hid (Put ⟨i, g, 0⟩ L k p) := hput
          have HM : Hid (M = laid ⟨i, g, 0⟩ L k p) := hM
          have hml : M.length ≤ L.length + 1 := by rw [hM]; exact HLN.out k p
          have hcr := cell_later hb hc
          obtain ⟨bi, bg, ba⟩ : wr.cell? ⟨w1.heap.size, 0, none⟩ = some (.int .i64 i) ∧ wr.cell? ⟨w1.heap.size, 1, none⟩ = some (.int .i64 g) ∧ wr.cell? ⟨w1.heap.size, 2, none⟩ = some (.int .i64 0) := ⟨by rw [hbox.cell]; rfl, by rw [hbox.cell]; rfl, by rw [hbox.cell]; rfl⟩
          clear hput hM hb1 hr1
          by_cases hkl : k < L.length
          · obtain ⟨b, rfl, k0, k1, k2⟩ := HA.out k hkl
            have hqd : decide ((k : Int) < (L.length : Int)) = true := by simp; omega
            obtain ⟨⟨yi, yg, ya⟩, he⟩ : ∃ y, y = L.getD k nz := ⟨_, rfl⟩
            rw [← he] at k0 k1 k2
            simp only at k0 k1 k2
            have HEQ : Hid ((⟨yi, yg, ya⟩ : En) = L.getD k nz) := he
            have HK0 : Hid (w1.cell? ⟨b, k * 3, none⟩ = some (.int .i64 yi)) := k0
            have HK1 : Hid (w1.cell? ⟨b, k * 3 + 1, none⟩ = some (.int .i64 yg)) := k1
            have HK2 : Hid (w1.cell? ⟨b, k * 3 + 2, none⟩ = some (.int .i64 ya)) := k2
            have hne := HNL.out k hkl
            rw [← he] at hne
            simp only at hne
            have c0 := cell_later hb k0
            have c1 := cell_later hb k1
            have c2 := cell_later hb k2
            clear he k0 k1 k2
            have hwy := below_alloc wr (.cells #[.int .i64 yi, .int .i64 yg, .int .i64 ya] 54)
            cases p with
            | true =>
              obtain ⟨hp2, hl2⟩ := put_stay HSR.out hkl HP.out
              rw [← HM.out, ← HEQ.out] at hl2
              have HP2 : Hid (Put ⟨i, g, 0⟩ L (k + 1) true) := hp2
              have HL2 : Hid (laid ⟨i, g, 0⟩ L (k + 1) true = M ++ [⟨yi, yg, ya⟩]) := hl2
              have HOW : Hid ((wr.alloc (.cells #[.int .i64 yi, .int .i64 yg, .int .i64 ya] 54)).ownsRow (w1.heap.size + 1) 54 3 u10 M.length (flatN M)) := own_below hown hwy
              have HBX : Hid (RowAt (wr.alloc (.cells #[.int .i64 yi, .int .i64 yg, .int .i64 ya] 54)) w1.heap.size 54 [.int .i64 i, .int .i64 g, .int .i64 0]) := hbox.alloc _
              have HBW : Hid (Below w1.heap.size w1 (wr.alloc (.cells #[.int .i64 yi, .int .i64 yg, .int .i64 ya] 54))) := bel_trans hb hwy (Nat.le_refl _)
              clear hp2 hl2 hown hbox hb hwy bi bg ba
              go_wp2_with (at_builtin; refine app_en (w1.heap.size + 1) M _ rfl _ _ rfl u10 rfl HOW.out [⟨yi, yg, ya⟩] ⟨wr.heap.size, 0, none⟩ 1 _ rfl rfl (one_cells (RowAt.new wr #[.int .i64 yi, .int .i64 yg, .int .i64 ya] 54)) (by simp; omega) (by simp; omega) ?_; intro v5 w5 hown5 hb5)
              exact ⟨⟨k + 1, true, M ++ [⟨yi, yg, ya⟩], by omega, by go_num, rfl, HP2.out, HL2.out.symm, hown5, HBX.out.below hb5 (by omega), HBW.out.trans (hb5.mono (by omega)), by have := hb5.size; simp at this; omega⟩, by simp [intOf]; omega⟩
            | false =>
              by_cases hiy : i < yi
              · have hq : decide (i < yi) = true := by simpa using hiy
                obtain ⟨hp2, hl2⟩ := put_now hkl HP.out (by rw [← HEQ.out]; exact hiy)
                rw [← HM.out, ← HEQ.out] at hl2
                have HP2 : Hid (Put ⟨i, g, 0⟩ L (k + 1) true) := hp2
                have HL2 : Hid (laid ⟨i, g, 0⟩ L (k + 1) true = (M ++ [⟨i, g, 0⟩]) ++ [⟨yi, yg, ya⟩]) := hl2
                have hwx := below_alloc wr (.cells #[.int .i64 i, .int .i64 g, .int .i64 0] 54)
                have HOW : Hid ((wr.alloc (.cells #[.int .i64 i, .int .i64 g, .int .i64 0] 54)).ownsRow (w1.heap.size + 1) 54 3 u10 M.length (flatN M)) := own_below hown hwx
                have HBX : Hid (RowAt (wr.alloc (.cells #[.int .i64 i, .int .i64 g, .int .i64 0] 54)) w1.heap.size 54 [.int .i64 i, .int .i64 g, .int .i64 0]) := hbox.alloc _
                have HBW : Hid (Below w1.heap.size w1 (wr.alloc (.cells #[.int .i64 i, .int .i64 g, .int .i64 0] 54))) := bel_trans hb hwx (Nat.le_refl _)
                have HHC : Hid (w1.cell? ⟨r, 0, none⟩ = some (.slice (some ⟨b, 0, none⟩) L.length cap)) := hc
                clear hp2 hl2 hown hbox hb hwy hwx
                go_wp2_with (first | (at_builtin; refine app_en (w1.heap.size + 1) M (wr.alloc (.cells #[.int .i64 i, .int .i64 g, .int .i64 0] 54)) rfl _ _ rfl u10 rfl HOW.out [⟨i, g, 0⟩] ⟨wr.heap.size, 0, none⟩ 1 _ rfl rfl (one_cells (RowAt.new wr #[.int .i64 i, .int .i64 g, .int .i64 0] 54)) (by simp; omega) (by simp; omega) ?_; intro v5 w5 hown5 hb5; have HBW5 : Hid (Below w1.heap.size w1 w5) := HBW.out.trans (hb5.mono (by omega)); have HZ5 : Hid (w1.heap.size + 1 ≤ w5.heap.size) := (by have := hb5.size; simp at this; show _ ≤ _; omega); have HBX5 : Hid (RowAt w5 w1.heap.size 54 [.int .i64 i, .int .i64 g, .int .i64 0]) := HBX.out.below hb5 (by omega); have hc5 := cell_later HBW5.out HHC.out; have d0 := cell_later HBW5.out HK0.out; have d1 := cell_later HBW5.out HK1.out; have d2 := cell_later HBW5.out HK2.out; have HOW5 : Hid (w5.ownsRow (w1.heap.size + 1) 54 3 v5 (M ++ [(⟨i, g, 0⟩ : En)]).length (flatN (M ++ [(⟨i, g, 0⟩ : En)]))) := hown5; clear hown5 hb5) | (at_builtin; refine app_en (w1.heap.size + 1) (M ++ [⟨i, g, 0⟩]) (w5.alloc (.cells #[.int .i64 yi, .int .i64 yg, .int .i64 ya] 54)) rfl _ _ rfl v5 rfl (own_below HOW5.out (below_alloc _ _)) [⟨yi, yg, ya⟩] ⟨w5.heap.size, 0, none⟩ 1 _ rfl rfl (one_cells (RowAt.new w5 #[.int .i64 yi, .int .i64 yg, .int .i64 ya] 54)) (by simp; omega) (by have := HZ5.out; simp; omega) ?_; intro v6 w6 hown6 hb6))
                exact ⟨⟨k + 1, true, (M ++ [⟨i, g, 0⟩]) ++ [⟨yi, yg, ya⟩], by omega, by go_num, rfl, HP2.out, HL2.out.symm, hown6, (HBX5.out.alloc _).below hb6 (by omega), (bel_trans HBW5.out (below_alloc _ _) (Nat.le_refl _)).trans (hb6.mono (by omega)), by have := hb6.size; have := HZ5.out; simp at *; omega⟩, by simp [intOf]; omega⟩
              · have hq : decide (i < yi) = false := by simpa using hiy
                obtain ⟨hp2, hl2⟩ := put_not hkl HP.out (by rw [← HEQ.out]; simp only; omega)
                rw [← HM.out, ← HEQ.out] at hl2
                have HP2 : Hid (Put ⟨i, g, 0⟩ L (k + 1) false) := hp2
                have HL2 : Hid (laid ⟨i, g, 0⟩ L (k + 1) false = M ++ [⟨yi, yg, ya⟩]) := hl2
                have HOW : Hid ((wr.alloc (.cells #[.int .i64 yi, .int .i64 yg, .int .i64 ya] 54)).ownsRow (w1.heap.size + 1) 54 3 u10 M.length (flatN M)) := own_below hown hwy
                have HBX : Hid (RowAt (wr.alloc (.cells #[.int .i64 yi, .int .i64 yg, .int .i64 ya] 54)) w1.heap.size 54 [.int .i64 i, .int .i64 g, .int .i64 0]) := hbox.alloc _
                have HBW : Hid (Below w1.heap.size w1 (wr.alloc (.cells #[.int .i64 yi, .int .i64 yg, .int .i64 ya] 54))) := bel_trans hb hwy (Nat.le_refl _)
                clear hp2 hl2 hown hbox hb hwy bi bg ba
                go_wp2_with (at_builtin; refine app_en (w1.heap.size + 1) M _ rfl _ _ rfl u10 rfl HOW.out [⟨yi, yg, ya⟩] ⟨wr.heap.size, 0, none⟩ 1 _ rfl rfl (one_cells (RowAt.new wr #[.int .i64 yi, .int .i64 yg, .int .i64 ya] 54)) (by simp; omega) (by simp; omega) ?_; intro v5 w5 hown5 hb5)
                exact ⟨⟨k + 1, false, M ++ [⟨yi, yg, ya⟩], by omega, by go_num, rfl, HP2.out, HL2.out.symm, hown5, HBX.out.below hb5 (by omega), HBW.out.trans (hb5.mono (by omega)), by have := hb5.size; simp at this; omega⟩, by simp [intOf]; omega⟩
          · obtain rfl : k = L.length := by omega
            have hqd : decide ((L.length : Int) < (L.length : Int)) = false := by simp
            have hend := laid_end HP.out
            rw [← HM.out] at hend
            obtain ⟨au, cu, rfl, -⟩ := own_form hown
            cases p with
            | true =>
              have HEND : Hid (M = addL L i g false) := by show _ = _; rw [HB.out]; exact hend
              have hrow2 := HROW.out.below hb hrl
              have hf2 := hrow2.frozen 0
              have HRES : Hid (RefIs B (wr.setCell ⟨r, 0, none⟩ (.slice au M.length cu)) r (addL L i g false)) := HEND.out ▸ ref_put hrow2 hown (by omega) hlo (by omega) (HEND.out ▸ HO.out)
              have HBW : Hid (Below B w1 wr) := hb.mono (by omega)
              clear hend hrow2 hbox bi bg ba hb
              go_wp2
              go_ret
              exact ⟨by rw [HE.out]; rfl, HRES.out, HBW.out.setCell (p := ⟨r, 0, none⟩) hlo _⟩
            | false =>
              have HEND : Hid (M ++ [⟨i, g, 0⟩] = addL L i g false) := by show _ = _; rw [HB.out]; exact hend
              have hwx := below_alloc wr (.cells #[.int .i64 i, .int .i64 g, .int .i64 0] 54)
              have HOW : Hid ((wr.alloc (.cells #[.int .i64 i, .int .i64 g, .int .i64 0] 54)).ownsRow (w1.heap.size + 1) 54 3 (.slice au M.length cu) M.length (flatN M)) := own_below hown hwx
              have HBW : Hid (Below w1.heap.size w1 (wr.alloc (.cells #[.int .i64 i, .int .i64 g, .int .i64 0] 54))) := bel_trans hb hwx (Nat.le_refl _)
              clear hend hown hbox hb hwx
              go_wp2_with (at_builtin; refine app_en (w1.heap.size + 1) M _ rfl _ _ rfl (.slice au M.length cu) rfl HOW.out [⟨i, g, 0⟩] ⟨wr.heap.size, 0, none⟩ 1 _ rfl rfl (one_cells (RowAt.new wr #[.int .i64 i, .int .i64 g, .int .i64 0] 54)) (by simp; omega) (by simp; omega) ?_; intro v5 w5 hown5 hb5; obtain ⟨a5, c5, rfl, -⟩ := own_form hown5; have HBW5 : Hid (Below w1.heap.size w1 w5) := HBW.out.trans (hb5.mono (by omega)); have hrow5 := HROW.out.below HBW5.out hrl; have hf5 := hrow5.frozen 0; have hc5 := hrow5.cell 0; have HRES : Hid (RefIs B (w5.setCell ⟨r, 0, none⟩ (.slice a5 (M.length + 1) c5)) r (addL L i g false)) := (by have hp := ref_put hrow5 hown5 (by omega) hlo (by omega) (HEND.out ▸ HO.out); rw [HEND.out] at hp; show RefIs _ _ _ _; have e9 : (addL L i g false).length = M.length + 1 := (by rw [← HEND.out]; simp); rw [← e9]; exact hp); clear hown5 hb5 hrow5)
              go_ret
              exact ⟨by rw [HE.out]; rfl, HRES.out, (HBW5.out.mono (by omega)).setCell (p := ⟨r, 0, none⟩) hlo _⟩
      · have ha0 := HA0.out
        simp at ha0
        subst ha0
        go_enter Try.func30, Try.ntmps30
        go_wp2_with fail
        refine HF.out.mono ?_
        rintro e w1 ⟨rfl, rfl⟩
        go_wp2_with fail
        have hb1 := below_alloc w1 (.cells #[.int .i64 i, .int .i64 g, .int .i64 1] 54)
        have hr1 := RowAt.new w1 #[.int .i64 i, .int .i64 g, .int .i64 1] 54
        go_loopw [10, 11, 12] (fun s10 s11 s12 wr => ∃ (k : Nat) (p : Bool) (M : List En), k ≤ L.length ∧ s12 = .int .i64 k ∧ s11 = .bool p ∧ Put ⟨i, g, 1⟩ L k p ∧ M = laid ⟨i, g, 1⟩ L k p ∧ wr.ownsRow (w1.heap.size + 1) 54 3 s10 M.length (flatN M) ∧ RowAt wr w1.heap.size 54 [.int .i64 i, .int .i64 g, .int .i64 1] ∧ Below w1.heap.size w1 wr ∧ w1.heap.size + 1 ≤ wr.heap.size) (fun _ _ s12 _ => L.length - (intOf s12).toNat)
        case atStart => exact ⟨0, false, [], by omega, rfl, rfl, (fun j hj _ => by omega), rfl, World.ownsRow_nil _ _ _ _, hr1, hb1, by simp⟩
        case round =>
          obtain ⟨k, p, M, hk, rfl, rfl, hput, hM, hown, hbox, hb, hsz⟩ := hrel
          have HP : Hid (Put ⟨i, g, 1⟩ L k p) := hput
          have HM : Hid (M = laid ⟨i, g, 1⟩ L k p) := hM
          have hml : M.length ≤ L.length + 1 := by rw [hM]; exact HLN.out k p
          have hcr := cell_later hb hc
          obtain ⟨bi, bg, ba⟩ : wr.cell? ⟨w1.heap.size, 0, none⟩ = some (.int .i64 i) ∧ wr.cell? ⟨w1.heap.size, 1, none⟩ = some (.int .i64 g) ∧ wr.cell? ⟨w1.heap.size, 2, none⟩ = some (.int .i64 1) := ⟨by rw [hbox.cell]; rfl, by rw [hbox.cell]; rfl, by rw [hbox.cell]; rfl⟩
          clear hput hM hb1 hr1
          by_cases hkl : k < L.length
          · obtain ⟨b, rfl, k0, k1, k2⟩ := HA.out k hkl
            have hqd : decide ((k : Int) < (L.length : Int)) = true := by simp; omega
            obtain ⟨⟨yi, yg, ya⟩, he⟩ : ∃ y, y = L.getD k nz := ⟨_, rfl⟩
            rw [← he] at k0 k1 k2
            simp only at k0 k1 k2
            have HEQ : Hid ((⟨yi, yg, ya⟩ : En) = L.getD k nz) := he
            have HK0 : Hid (w1.cell? ⟨b, k * 3, none⟩ = some (.int .i64 yi)) := k0
            have HK1 : Hid (w1.cell? ⟨b, k * 3 + 1, none⟩ = some (.int .i64 yg)) := k1
            have HK2 : Hid (w1.cell? ⟨b, k * 3 + 2, none⟩ = some (.int .i64 ya)) := k2
            have hne := HNL.out k hkl
            rw [← he] at hne
            simp only at hne
            have c0 := cell_later hb k0
            have c1 := cell_later hb k1
            have c2 := cell_later hb k2
            clear he k0 k1 k2
            have hwy := below_alloc wr (.cells #[.int .i64 yi, .int .i64 yg, .int .i64 ya] 54)
            cases p with
            | true =>
              obtain ⟨hp2, hl2⟩ := put_stay HSR.out hkl HP.out
              rw [← HM.out, ← HEQ.out] at hl2
              have HP2 : Hid (Put ⟨i, g, 1⟩ L (k + 1) true) := hp2
              have HL2 : Hid (laid ⟨i, g, 1⟩ L (k + 1) true = M ++ [⟨yi, yg, ya⟩]) := hl2
              have HOW : Hid ((wr.alloc (.cells #[.int .i64 yi, .int .i64 yg, .int .i64 ya] 54)).ownsRow (w1.heap.size + 1) 54 3 u10 M.length (flatN M)) := own_below hown hwy
              have HBX : Hid (RowAt (wr.alloc (.cells #[.int .i64 yi, .int .i64 yg, .int .i64 ya] 54)) w1.heap.size 54 [.int .i64 i, .int .i64 g, .int .i64 1]) := hbox.alloc _
              have HBW : Hid (Below w1.heap.size w1 (wr.alloc (.cells #[.int .i64 yi, .int .i64 yg, .int .i64 ya] 54))) := bel_trans hb hwy (Nat.le_refl _)
              clear hp2 hl2 hown hbox hb hwy bi bg ba
              go_wp2_with (at_builtin; refine app_en (w1.heap.size + 1) M _ rfl _ _ rfl u10 rfl HOW.out [⟨yi, yg, ya⟩] ⟨wr.heap.size, 0, none⟩ 1 _ rfl rfl (one_cells (RowAt.new wr #[.int .i64 yi, .int .i64 yg, .int .i64 ya] 54)) (by simp; omega) (by simp; omega) ?_; intro v5 w5 hown5 hb5)
              exact ⟨⟨k + 1, true, M ++ [⟨yi, yg, ya⟩], by omega, by go_num, rfl, HP2.out, HL2.out.symm, hown5, HBX.out.below hb5 (by omega), HBW.out.trans (hb5.mono (by omega)), by have := hb5.size; simp at this; omega⟩, by simp [intOf]; omega⟩
            | false =>
              by_cases hiy : i < yi
              · have hq : decide (i < yi) = true := by simpa using hiy
                obtain ⟨hp2, hl2⟩ := put_now hkl HP.out (by rw [← HEQ.out]; exact hiy)
                rw [← HM.out, ← HEQ.out] at hl2
                have HP2 : Hid (Put ⟨i, g, 1⟩ L (k + 1) true) := hp2
                have HL2 : Hid (laid ⟨i, g, 1⟩ L (k + 1) true = (M ++ [⟨i, g, 1⟩]) ++ [⟨yi, yg, ya⟩]) := hl2
                have hwx := below_alloc wr (.cells #[.int .i64 i, .int .i64 g, .int .i64 1] 54)
                have HOW : Hid ((wr.alloc (.cells #[.int .i64 i, .int .i64 g, .int .i64 1] 54)).ownsRow (w1.heap.size + 1) 54 3 u10 M.length (flatN M)) := own_below hown hwx
                have HBX : Hid (RowAt (wr.alloc (.cells #[.int .i64 i, .int .i64 g, .int .i64 1] 54)) w1.heap.size 54 [.int .i64 i, .int .i64 g, .int .i64 1]) := hbox.alloc _
                have HBW : Hid (Below w1.heap.size w1 (wr.alloc (.cells #[.int .i64 i, .int .i64 g, .int .i64 1] 54))) := bel_trans hb hwx (Nat.le_refl _)
                have HHC : Hid (w1.cell? ⟨r, 0, none⟩ = some (.slice (some ⟨b, 0, none⟩) L.length cap)) := hc
                clear hp2 hl2 hown hbox hb hwy hwx
                go_wp2_with (first | (at_builtin; refine app_en (w1.heap.size + 1) M (wr.alloc (.cells #[.int .i64 i, .int .i64 g, .int .i64 1] 54)) rfl _ _ rfl u10 rfl HOW.out [⟨i, g, 1⟩] ⟨wr.heap.size, 0, none⟩ 1 _ rfl rfl (one_cells (RowAt.new wr #[.int .i64 i, .int .i64 g, .int .i64 1] 54)) (by simp; omega) (by simp; omega) ?_; intro v5 w5 hown5 hb5; have HBW5 : Hid (Below w1.heap.size w1 w5) := HBW.out.trans (hb5.mono (by omega)); have HZ5 : Hid (w1.heap.size + 1 ≤ w5.heap.size) := (by have := hb5.size; simp at this; show _ ≤ _; omega); have HBX5 : Hid (RowAt w5 w1.heap.size 54 [.int .i64 i, .int .i64 g, .int .i64 1]) := HBX.out.below hb5 (by omega); have hc5 := cell_later HBW5.out HHC.out; have d0 := cell_later HBW5.out HK0.out; have d1 := cell_later HBW5.out HK1.out; have d2 := cell_later HBW5.out HK2.out; have HOW5 : Hid (w5.ownsRow (w1.heap.size + 1) 54 3 v5 (M ++ [(⟨i, g, 1⟩ : En)]).length (flatN (M ++ [(⟨i, g, 1⟩ : En)]))) := hown5; clear hown5 hb5) | (at_builtin; refine app_en (w1.heap.size + 1) (M ++ [⟨i, g, 1⟩]) (w5.alloc (.cells #[.int .i64 yi, .int .i64 yg, .int .i64 ya] 54)) rfl _ _ rfl v5 rfl (own_below HOW5.out (below_alloc _ _)) [⟨yi, yg, ya⟩] ⟨w5.heap.size, 0, none⟩ 1 _ rfl rfl (one_cells (RowAt.new w5 #[.int .i64 yi, .int .i64 yg, .int .i64 ya] 54)) (by simp; omega) (by have := HZ5.out; simp; omega) ?_; intro v6 w6 hown6 hb6))
                exact ⟨⟨k + 1, true, (M ++ [⟨i, g, 1⟩]) ++ [⟨yi, yg, ya⟩], by omega, by go_num, rfl, HP2.out, HL2.out.symm, hown6, (HBX5.out.alloc _).below hb6 (by omega), (bel_trans HBW5.out (below_alloc _ _) (Nat.le_refl _)).trans (hb6.mono (by omega)), by have := hb6.size; have := HZ5.out; simp at *; omega⟩, by simp [intOf]; omega⟩
              · have hq : decide (i < yi) = false := by simpa using hiy
                obtain ⟨hp2, hl2⟩ := put_not hkl HP.out (by rw [← HEQ.out]; simp only; omega)
                rw [← HM.out, ← HEQ.out] at hl2
                have HP2 : Hid (Put ⟨i, g, 1⟩ L (k + 1) false) := hp2
                have HL2 : Hid (laid ⟨i, g, 1⟩ L (k + 1) false = M ++ [⟨yi, yg, ya⟩]) := hl2
                have HOW : Hid ((wr.alloc (.cells #[.int .i64 yi, .int .i64 yg, .int .i64 ya] 54)).ownsRow (w1.heap.size + 1) 54 3 u10 M.length (flatN M)) := own_below hown hwy
                have HBX : Hid (RowAt (wr.alloc (.cells #[.int .i64 yi, .int .i64 yg, .int .i64 ya] 54)) w1.heap.size 54 [.int .i64 i, .int .i64 g, .int .i64 1]) := hbox.alloc _
                have HBW : Hid (Below w1.heap.size w1 (wr.alloc (.cells #[.int .i64 yi, .int .i64 yg, .int .i64 ya] 54))) := bel_trans hb hwy (Nat.le_refl _)
                clear hp2 hl2 hown hbox hb hwy bi bg ba
                go_wp2_with (at_builtin; refine app_en (w1.heap.size + 1) M _ rfl _ _ rfl u10 rfl HOW.out [⟨yi, yg, ya⟩] ⟨wr.heap.size, 0, none⟩ 1 _ rfl rfl (one_cells (RowAt.new wr #[.int .i64 yi, .int .i64 yg, .int .i64 ya] 54)) (by simp; omega) (by simp; omega) ?_; intro v5 w5 hown5 hb5)
                exact ⟨⟨k + 1, false, M ++ [⟨yi, yg, ya⟩], by omega, by go_num, rfl, HP2.out, HL2.out.symm, hown5, HBX.out.below hb5 (by omega), HBW.out.trans (hb5.mono (by omega)), by have := hb5.size; simp at this; omega⟩, by simp [intOf]; omega⟩
          · obtain rfl : k = L.length := by omega
            have hqd : decide ((L.length : Int) < (L.length : Int)) = false := by simp
            have hend := laid_end HP.out
            rw [← HM.out] at hend
            obtain ⟨au, cu, rfl, -⟩ := own_form hown
            cases p with
            | true =>
              have HEND : Hid (M = addL L i g true) := by show _ = _; rw [HB.out]; exact hend
              have hrow2 := HROW.out.below hb hrl
              have hf2 := hrow2.frozen 0
              have HRES : Hid (RefIs B (wr.setCell ⟨r, 0, none⟩ (.slice au M.length cu)) r (addL L i g true)) := HEND.out ▸ ref_put hrow2 hown (by omega) hlo (by omega) (HEND.out ▸ HO.out)
              have HBW : Hid (Below B w1 wr) := hb.mono (by omega)
              clear hend hrow2 hbox bi bg ba hb
              go_wp2
              go_ret
              exact ⟨by rw [HE.out]; rfl, HRES.out, HBW.out.setCell (p := ⟨r, 0, none⟩) hlo _⟩
            | false =>
              have HEND : Hid (M ++ [⟨i, g, 1⟩] = addL L i g true) := by show _ = _; rw [HB.out]; exact hend
              have hwx := below_alloc wr (.cells #[.int .i64 i, .int .i64 g, .int .i64 1] 54)
              have HOW : Hid ((wr.alloc (.cells #[.int .i64 i, .int .i64 g, .int .i64 1] 54)).ownsRow (w1.heap.size + 1) 54 3 (.slice au M.length cu) M.length (flatN M)) := own_below hown hwx
              have HBW : Hid (Below w1.heap.size w1 (wr.alloc (.cells #[.int .i64 i, .int .i64 g, .int .i64 1] 54))) := bel_trans hb hwx (Nat.le_refl _)
              clear hend hown hbox hb hwx
              go_wp2_with (at_builtin; refine app_en (w1.heap.size + 1) M _ rfl _ _ rfl (.slice au M.length cu) rfl HOW.out [⟨i, g, 1⟩] ⟨wr.heap.size, 0, none⟩ 1 _ rfl rfl (one_cells (RowAt.new wr #[.int .i64 i, .int .i64 g, .int .i64 1] 54)) (by simp; omega) (by simp; omega) ?_; intro v5 w5 hown5 hb5; obtain ⟨a5, c5, rfl, -⟩ := own_form hown5; have HBW5 : Hid (Below w1.heap.size w1 w5) := HBW.out.trans (hb5.mono (by omega)); have hrow5 := HROW.out.below HBW5.out hrl; have hf5 := hrow5.frozen 0; have hc5 := hrow5.cell 0; have HRES : Hid (RefIs B (w5.setCell ⟨r, 0, none⟩ (.slice a5 (M.length + 1) c5)) r (addL L i g true)) := (by have hp := ref_put hrow5 hown5 (by omega) hlo (by omega) (HEND.out ▸ HO.out); rw [HEND.out] at hp; show RefIs _ _ _ _; have e9 : (addL L i g true).length = M.length + 1 := (by rw [← HEND.out]; simp); rw [← e9]; exact hp); clear hown5 hb5 hrow5)
              go_ret
              exact ⟨by rw [HE.out]; rfl, HRES.out, (HBW5.out.mono (by omega)).setCell (p := ⟨r, 0, none⟩) hlo _⟩
    · rw [e1] at HF
      have HE : Hid (addE L i g = 4) := by show _ = _; unfold addE; rw [hok, e2]; rfl
      have HB : Hid (addL L i g o = L) := by show _ = _; simp [addL, HE.out]
      have hd : decide (0 ≤ (k : Int)) = true := by simp
      clear hok e1 e2 b1 b2 b3 b4 h
      go_enter Try.func30, Try.ntmps30
      go_wp2_with fail
      refine HF.out.mono ?_
      rintro e w1 ⟨rfl, rfl⟩
      go_wp2
      go_ret
      exact ⟨by rw [HE.out]; rfl, by rw [HB.out]; exact H0.out, Below.refl _ _⟩
end Go.Proofs.Ytfmgmelgfnppkaa
