/-
  The contracts of the document's Age and Move.
-/
import Derived.Test.YtfmgmelgfnppkaaR2
namespace Go.Proofs.Ytfmgmelgfnppkaa
open Go.RowKit

/-- The first k turned. -/
def hv (f : En → En) (L : List En) (k : Nat) : List En := (L.take k).map f ++ L.drop k
theorem hv_len (f : En → En) (L : List En) (k : Nat) : (hv f L k).length = L.length := by
  simp only [hv, List.length_append, List.length_map, List.length_take, List.length_drop]; omega
theorem hv_zero (f : En → En) (L : List En) : hv f L 0 = L := by simp [hv]
theorem hv_end (f : En → En) (L : List En) : hv f L L.length = turn f L := by simp [hv, turn]
theorem hv_get (f : En → En) {L : List En} {k : Nat} (hk : k < L.length) : (hv f L k).getD k nz = L.getD k nz := by
  have h1 : ((L.take k).map f).length = k := by simp; omega
  simp only [hv, List.getD_eq_getElem?_getD]
  rw [List.getElem?_append_right (by omega), h1, Nat.sub_self]
  simp [hk]
theorem hv_next (f : En → En) {L : List En} {k : Nat} (hk : k < L.length) : hv f L (k + 1) = (hv f L k).set k (f (L.getD k nz)) := by
  have e : L.getD k nz = L[k] := by simp [hk]
  apply List.ext_getElem?
  intro j
  rw [List.getElem?_set, hv_len, e]
  unfold hv
  by_cases hj : k = j
  · subst hj
    rw [if_pos rfl, if_pos hk, List.getElem?_append_left (by simp; omega)]
    simp [hk]
  · rw [if_neg hj]
    by_cases hlt : j < k
    · rw [List.getElem?_append_left (by simp; omega), List.getElem?_append_left (by simp; omega), List.getElem?_map, List.getElem?_map, List.getElem?_take_of_lt (by omega), List.getElem?_take_of_lt hlt]
    · rw [List.getElem?_append_right (by simp; omega), List.getElem?_append_right (by simp; omega), List.getElem?_drop, List.getElem?_drop]
      simp only [List.length_map, List.length_take]
      congr 1
      omega
theorem hv_same (f : En → En) {L : List En} {k : Nat} (hk : k < L.length) (he : f (L.getD k nz) = L.getD k nz) : hv f L (k + 1) = hv f L k := by
  rw [hv_next f hk, he]
  apply List.ext_getElem?
  intro j
  rw [List.getElem?_set]
  by_cases hj : k = j
  · subst hj
    rw [if_pos rfl, if_pos (by rw [hv_len]; exact hk)]
    have := hv_get f hk
    rw [← this]
    have hl : k < (hv f L k).length := by rw [hv_len]; exact hk
    simp [hl]
  · rw [if_neg hj]
theorem srt_map {L : List En} : Srt L ↔ (L.map (·.i)).Pairwise (· < ·) := by
  unfold Srt
  rw [List.pairwise_map]
theorem hv_ok {f : En → En} (hf : ∀ x, (f x).i = x.i) (hr : ∀ x, Rng x → Rng (f x)) {L : List En} (h : Ok L) (k : Nat) : Ok (hv f L k) := by
  refine ⟨?_, fun x hx => ?_⟩
  · rw [srt_map]
    have : (hv f L k).map (·.i) = L.map (·.i) := by
      unfold hv
      rw [List.map_append, List.map_map]
      have e : ((·.i) ∘ f) = fun x : En => x.i := by funext x; exact hf x
      rw [e, ← List.map_append, List.take_append_drop]
    rw [this, ← srt_map]
    exact h.srt
  · rcases List.mem_append.1 hx with hx | hx
    · obtain ⟨y, hy, rfl⟩ := List.mem_map.1 hx
      exact hr y (h.rng y (List.mem_of_mem_take hy))
    · exact h.rng x (List.mem_of_mem_drop hx)
theorem cnt_next (p : En → Bool) {L : List En} {k : Nat} (hk : k < L.length) : (L.take (k + 1)).countP p = (L.take k).countP p + if p (L.getD k nz) then 1 else 0 := by
  have : L.take (k + 1) = L.take k ++ [L.getD k nz] := by simp [hk]
  rw [this, List.countP_append, List.countP_singleton]

set_option maxHeartbeats 2000000 in
theorem rage (B r : Nat) (L : List En) (q : Int) (w : World) (h : RefIs B w r L) (hL : L.length < 1000000) :
    Calls Try.prog 28 #[.pointer (some ⟨r, 0, none⟩), .int .i64 q] w fun e w' => e = .returned (.int .i64 (ageN L q : Nat)) ∧ RefIs B w' r (ageL L q) ∧ Below B w w' := by
  have HOK : Hid (∀ k, Ok (hv (age q) L k)) := fun k => hv_ok (age_i q) (fun x hx => age_rng hx) h.ok k
  have HRG : Hid (∀ x ∈ L, Rng x) := h.ok.rng
  have HN : Hid (∀ k, (L.take k).countP (old q) ≤ k) := fun k => Nat.le_trans List.countP_le_length (by simp; omega)
  have HI : Hid (RefIs B w r L) := h
  have hc0 : ∃ a cap, w.cell? ⟨r, 0, none⟩ = some (.slice a L.length cap) := by
    obtain ⟨a, cap, hc, -⟩ := h.open
    exact ⟨a, cap, hc⟩
  obtain ⟨a0, cap0, hc0⟩ := hc0
  clear h
  go_enter Try.func28, Try.ntmps28
  go_wp2_with fail
  go_loopw [5, 6] (fun s5 s6 wr => ∃ k n : Nat, k ≤ L.length ∧ s6 = .int .i64 k ∧ s5 = .int .i64 n ∧ n = (L.take k).countP (old q) ∧ RefIs B wr r (hv (age q) L k) ∧ Below B w wr) (fun _ s6 _ => L.length - (intOf s6).toNat)
  case atStart => exact ⟨0, 0, by omega, rfl, rfl, rfl, by rw [hv_zero]; exact HI.out, Below.refl _ _⟩
  case round =>
    obtain ⟨k, n, hk, rfl, rfl, hn, hR, hb⟩ := hrel
    have hnk := HN.out k
    rw [← hn] at hnk
    have HC : Hid (n = (L.take k).countP (old q)) := hn
    have HB : Hid (Below B w wr) := hb
    clear hn hb
    obtain ⟨a, cap, hc, hat, hown, hrow⟩ := hR.open
    by_cases hkl : k < L.length
    · obtain ⟨b, ha, k0, k1, k2⟩ := hat k (by rw [hv_len]; exact hkl)
      have hget := hv_get (age q) hkl
      rw [hget] at k1 k2
      have hd : decide ((k : Int) < (L.length : Int)) = true := by simp; omega
      have hbd := (HRG.out _ (getD_mem hkl)).2.2
      have hcn := cnt_next (old q) hkl
      rw [← HC.out] at hcn
      have hnx := hv_next (age q) hkl
      have hsm := hv_same (age q) hkl
      have hok := HOK.out (k + 1)
      have hml := hv_len (age q) L k
      obtain ⟨M, hM⟩ : ∃ M, M = hv (age q) L k := ⟨_, rfl⟩
      rw [← hM] at hR hc hown hrow hget hnx hsm hml
      obtain ⟨⟨ei, eg, ea⟩, he⟩ : ∃ y, y = L.getD k nz := ⟨_, rfl⟩
      rw [← he] at k1 k2 hbd hcn hnx hsm hget
      simp only at k1 k2 hbd
      have HR : Hid (RefIs B wr r M) := hR
      have HHV : Hid (M = hv (age q) L k) := hM
      by_cases hg : eg = q
      · have q1 : (eg == q) = true := by simpa using hg
        by_cases h3 : ea < 3
        · have q3 : decide (ea < 3) = true := by simpa using h3
          have hold : old q ⟨ei, eg, ea⟩ = true := by simp [old, hg, h3]
          have hage : age q ⟨ei, eg, ea⟩ = ⟨ei, eg, ea + 1⟩ := by simp [age, hold]
          rw [hold] at hcn
          rw [hage] at hnx
          rw [hnx] at hok
          have hres := hR.turn ha hown hrow (k := k) (j := 2) (v := .int .i64 (ea + 1)) (y := ⟨ei, eg, ea + 1⟩) (by omega) (by omega) (by rw [hget]; rfl) hok
          rw [← hnx] at hres
          have HRES : Hid (RefIs B (wr.setCell ⟨b, k * 3 + 2, none⟩ (.int .i64 (ea + 1))) r (hv (age q) L (k + 1)) ∧ Below B wr (wr.setCell ⟨b, k * 3 + 2, none⟩ (.int .i64 (ea + 1)))) := hres
          have HC1 : Hid (n + 1 = (L.take (k + 1)).countP (old q)) := by show _ = _; rw [hcn]; rfl
          subst ha
          have hf := hown.frozenAt (k * 3 + 2)
          rw [hml] at hc
          clear hres hok hcn hnx hsm hown hrow hat hM he hget hold hage hR k0
          go_wp2
          exact ⟨⟨k + 1, n + 1, by omega, by go_num, by go_num, HC1.out, HRES.out.1, HB.out.trans HRES.out.2⟩, by simp [intOf]; omega⟩
        · have q3 : decide (ea < 3) = false := by simpa using h3
          have hold : old q ⟨ei, eg, ea⟩ = false := by simp [old, h3]
          have hage : age q ⟨ei, eg, ea⟩ = ⟨ei, eg, ea⟩ := by simp [age, hold]
          rw [hold] at hcn
          have HS : Hid (hv (age q) L (k + 1) = M) := hsm hage
          have HC1 : Hid (n = (L.take (k + 1)).countP (old q)) := by show _ = _; rw [hcn]; rfl
          subst ha
          rw [hml] at hc
          clear hok hcn hnx hsm hown hrow hat hM he hget hold hage hR k0
          go_wp2
          exact ⟨⟨k + 1, n, by omega, by go_num, by go_num, HC1.out, by rw [HS.out]; exact HR.out, HB.out⟩, by simp [intOf]; omega⟩
      · have q1 : (eg == q) = false := by simpa using hg
        have hold : old q ⟨ei, eg, ea⟩ = false := by simp [old, hg]
        have hage : age q ⟨ei, eg, ea⟩ = ⟨ei, eg, ea⟩ := by simp [age, hold]
        rw [hold] at hcn
        have HS : Hid (hv (age q) L (k + 1) = M) := hsm hage
        have HC1 : Hid (n = (L.take (k + 1)).countP (old q)) := by show _ = _; rw [hcn]; rfl
        subst ha
        rw [hml] at hc
        clear hok hcn hnx hsm hown hrow hat hM he hget hold hage hR k0
        go_wp2
        exact ⟨⟨k + 1, n, by omega, by go_num, by go_num, HC1.out, by rw [HS.out]; exact HR.out, HB.out⟩, by simp [intOf]; omega⟩
    · obtain rfl : k = L.length := by omega
      have hd : decide ((L.length : Int) < (L.length : Int)) = false := by simp
      have HF : Hid (n = ageN L q) := by show _ = _; rw [HC.out, List.take_length]; rfl
      have HE : Hid (RefIs B wr r (ageL L q)) := by show RefIs _ _ _ _; unfold ageL; rw [← hv_end]; exact hR
      rw [hv_len] at hc
      clear hat hown hrow hR
      go_wp2
      go_ret
      exact ⟨by rw [← HF.out]; rfl, HE.out, HB.out⟩

/-- Who moves; and what it is then. -/
def mo (f t : Int) (x : En) : Bool := may f t && x.g == f
def mvm (f t : Int) (x : En) : En := if mo f t x then { x with g := t } else x
theorem mvm_i (f t : Int) (x : En) : (mvm f t x).i = x.i := by unfold mvm; split <;> rfl
theorem mvm_rng {f t : Int} {x : En} (h : Rng x) : Rng (mvm f t x) := by
  unfold mvm
  split
  · rename_i hm
    simp only [mo, may, Bool.and_eq_true] at hm
    exact ⟨h.1, by simpa using okI_iff.1 hm.1.1, h.2.2⟩
  · exact h
theorem mvm_turn (f t : Int) (L : List En) : turn (mvm f t) L = moveL L f t := by
  unfold moveL
  cases hm : may f t with
  | true =>
    rw [if_pos rfl]
    refine List.map_congr_left fun x _ => ?_
    by_cases hx : x.g = f <;> simp [mvm, mo, hm, hx, mv]
  | false =>
    simp only [Bool.false_eq_true, if_false]
    unfold turn
    conv => rhs; rw [← List.map_id L]
    exact List.map_congr_left fun x _ => by simp [mvm, mo, hm]
theorem mo_count (f t : Int) (L : List En) : L.countP (mo f t) = moveN L f t := by
  unfold moveN
  cases hm : may f t with
  | true =>
    rw [if_pos rfl]
    exact List.countP_congr fun x _ => by simp [mo, hm]
  | false =>
    simp only [Bool.false_eq_true, if_false]
    rw [List.countP_eq_zero]
    intro x _
    simp [mo, hm]

set_option maxHeartbeats 4000000 in
theorem rmove (B r : Nat) (L : List En) (f t : Int) (w : World) (h : RefIs B w r L) (hL : L.length < 1000000) :
    Calls Try.prog 29 #[.pointer (some ⟨r, 0, none⟩), .int .i64 f, .int .i64 t] w fun e w' => e = .returned (.int .i64 (moveN L f t : Nat)) ∧ RefIs B w' r (moveL L f t) ∧ Below B w w' := by
  have HOK : Hid (∀ k, Ok (hv (mvm f t) L k)) := fun k => hv_ok (mvm_i f t) (fun x hx => mvm_rng hx) h.ok k
  have HN : Hid (∀ k, (L.take k).countP (mo f t) ≤ k) := fun k => Nat.le_trans List.countP_le_length (by simp; omega)
  have HI : Hid (RefIs B w r L) := h
  have hc0 : ∃ a cap, w.cell? ⟨r, 0, none⟩ = some (.slice a L.length cap) := by
    obtain ⟨a, cap, hc, -⟩ := h.open
    exact ⟨a, cap, hc⟩
  obtain ⟨a0, cap0, hc0⟩ := hc0
  clear h
  go_enter Try.func29, Try.ntmps29
  go_wp2_with fail
  go_loopw [7, 8] (fun s7 s8 wr => ∃ k n : Nat, k ≤ L.length ∧ s8 = .int .i64 k ∧ s7 = .int .i64 n ∧ n = (L.take k).countP (mo f t) ∧ RefIs B wr r (hv (mvm f t) L k) ∧ Below B w wr) (fun _ s8 _ => L.length - (intOf s8).toNat)
  case atStart => exact ⟨0, 0, by omega, rfl, rfl, rfl, by rw [hv_zero]; exact HI.out, Below.refl _ _⟩
  case round =>
    obtain ⟨k, n, hk, rfl, rfl, hn, hR, hb⟩ := hrel
    have hnk := HN.out k
    rw [← hn] at hnk
    have HC : Hid (n = (L.take k).countP (mo f t)) := hn
    have HB : Hid (Below B w wr) := hb
    clear hn hb
    obtain ⟨a, cap, hc, hat, hown, hrow⟩ := hR.open
    by_cases hkl : k < L.length
    · obtain ⟨b, ha, k0, k1, k2⟩ := hat k (by rw [hv_len]; exact hkl)
      have hget := hv_get (mvm f t) hkl
      rw [hget] at k1
      have hd : decide ((k : Int) < (L.length : Int)) = true := by simp; omega
      have hcn := cnt_next (mo f t) hkl
      rw [← HC.out] at hcn
      have hnx := hv_next (mvm f t) hkl
      have hsm := hv_same (mvm f t) hkl
      have hok := HOK.out (k + 1)
      have hml := hv_len (mvm f t) L k
      obtain ⟨M, hM⟩ : ∃ M, M = hv (mvm f t) L k := ⟨_, rfl⟩
      rw [← hM] at hR hc hown hrow hget hnx hsm hml
      obtain ⟨⟨ei, eg, ea⟩, he⟩ : ∃ y, y = L.getD k nz := ⟨_, rfl⟩
      rw [← he] at k1 hcn hnx hsm hget
      simp only at k1
      have HR : Hid (RefIs B wr r M) := hR
      cases hmo : mo f t ⟨ei, eg, ea⟩ with
      | true =>
        have hm2 := hmo
        simp only [mo, may, Bool.and_eq_true, decide_eq_true_eq, okI_iff, beq_iff_eq] at hm2
        obtain ⟨⟨⟨h1, h2⟩, h3⟩, h4⟩ := hm2
        have q1 : (eg == f) = true := by simpa using h4
        have q2 : decide (0 ≤ t) = true := by simpa using h1
        have q3 : decide (t ≤ 16777216) = true := by simpa using h2
        have q4 : (f != t) = true := by simpa using h3
        have hage : mvm f t ⟨ei, eg, ea⟩ = ⟨ei, t, ea⟩ := by simp [mvm, hmo]
        rw [hmo] at hcn
        rw [hage] at hnx
        rw [hnx] at hok
        have hres := hR.turn ha hown hrow (k := k) (j := 1) (v := .int .i64 t) (y := ⟨ei, t, ea⟩) (by omega) (by omega) (by rw [hget]; rfl) hok
        rw [← hnx] at hres
        have HRES : Hid (RefIs B (wr.setCell ⟨b, k * 3 + 1, none⟩ (.int .i64 t)) r (hv (mvm f t) L (k + 1)) ∧ Below B wr (wr.setCell ⟨b, k * 3 + 1, none⟩ (.int .i64 t))) := hres
        have HC1 : Hid (n + 1 = (L.take (k + 1)).countP (mo f t)) := by show _ = _; rw [hcn]; rfl
        subst ha
        have hf := hown.frozenAt (k * 3 + 1)
        rw [hml] at hc
        clear hres hok hcn hnx hsm hown hrow hat hM he hget hmo hage hR k0 k2 h1 h2 h3 h4
        go_wp2
        exact ⟨⟨k + 1, n + 1, by omega, by go_num, by go_num, HC1.out, HRES.out.1, HB.out.trans HRES.out.2⟩, by simp [intOf]; omega⟩
      | false =>
        have hage : mvm f t ⟨ei, eg, ea⟩ = ⟨ei, eg, ea⟩ := by simp [mvm, hmo]
        rw [hmo] at hcn
        have HS : Hid (hv (mvm f t) L (k + 1) = M) := hsm hage
        have HC1 : Hid (n = (L.take (k + 1)).countP (mo f t)) := by show _ = _; rw [hcn]; rfl
        subst ha
        rw [hml] at hc
        have hway : (eg == f) = false ∨ ((eg == f) = true ∧ decide (0 ≤ t) = false) ∨ ((eg == f) = true ∧ decide (0 ≤ t) = true ∧ decide (t ≤ 16777216) = false) ∨ ((eg == f) = true ∧ decide (0 ≤ t) = true ∧ decide (t ≤ 16777216) = true ∧ (f != t) = false) := by
          simp only [mo, may, okI] at hmo
          cases h1 : (eg == f) <;> cases h2 : decide (0 ≤ t) <;> cases h3 : decide (t ≤ 16777216) <;> cases h4 : (f != t) <;> simp_all
        clear hok hcn hnx hsm hown hrow hat hM he hget hmo hage hR k0 k2
        rcases hway with q1 | ⟨q1, q2⟩ | ⟨q1, q2, q3⟩ | ⟨q1, q2, q3, q4⟩
        all_goals
          go_wp2
          exact ⟨⟨k + 1, n, by omega, by go_num, by go_num, HC1.out, by rw [HS.out]; exact HR.out, HB.out⟩, by simp [intOf]; omega⟩
    · obtain rfl : k = L.length := by omega
      have hd : decide ((L.length : Int) < (L.length : Int)) = false := by simp
      have HF : Hid (n = moveN L f t) := by show _ = _; rw [HC.out, List.take_length, mo_count]
      have HE : Hid (RefIs B wr r (moveL L f t)) := by show RefIs _ _ _ _; rw [← mvm_turn, ← hv_end]; exact hR
      rw [hv_len] at hc
      clear hat hown hrow hR
      go_wp2
      go_ret
      exact ⟨by rw [← HF.out]; rfl, HE.out, HB.out⟩
end Go.Proofs.Ytfmgmelgfnppkaa
