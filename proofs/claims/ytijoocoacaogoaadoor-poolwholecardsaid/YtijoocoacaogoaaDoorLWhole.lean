/-
  The law PoolWhole, walked: for every input it answers true.
-/
import Derived.Test.YtijoocoacaogoaaDoorLLeast
namespace Go.Proofs.YtijoocoacaogoaaDoor
open Go.RowKit

/-- Of n numbers those of the rows below f are back, and of row f those below i. -/
def Gone (n s f i : Nat) (bs : List Bool) : Prop := bs.length = n ∧ ∀ t, t < n → bs.getD t false = !(decide (t % s < f) || (decide (t % s = f) && decide (t < i)))
theorem Gone.start {n s : Nat} : Gone n s 0 0 (fill (List.replicate n false) 0 n) := by
  refine ⟨by rw [fill_len]; simp, fun t ht => ?_⟩
  rw [fill_get _ _ _ _ (by simp), if_pos (by omega)]
  simp
theorem Gone.begin {n s f : Nat} {bs : List Bool} (h : Gone n s f 0 bs) : Gone n s f f bs := by
  refine ⟨h.1, fun t ht => ?_⟩
  rw [h.2 t ht]
  by_cases c : t % s = f
  · have : t % s ≤ t := Nat.mod_le _ _
    have h1 : ¬ t < f := by omega
    simp [h1]
  · simp [c]
theorem Gone.done {n s f i : Nat} {bs : List Bool} (h : Gone n s f i bs) (hi : n ≤ i) : Gone n s (f + 1) 0 bs := by
  refine ⟨h.1, fun t ht => ?_⟩
  rw [h.2 t ht]
  have h1 : t < i := by omega
  by_cases c : t % s = f
  · simp [c, h1]
  · by_cases d : t % s < f
    · have : t % s < f + 1 := by omega
      simp [d, this]
    · have : ¬ t % s < f + 1 := by omega
      simp [d, this, c]
theorem Gone.on {n s f i : Nat} {bs : List Bool} (h : Gone n s f i bs) (hi : i < n) (hf : i % s = f) : giveOf bs i = (0, bs.set i false) ∧ bs.getD i false = true := by
  have hb : bs.getD i false = true := by
    rw [h.2 i hi]; simp; omega
  refine ⟨?_, hb⟩
  have hl := h.1
  unfold giveOf
  rw [if_pos (by omega), bget_in, hb]
  simp [bset]
theorem Gone.step {n s f i : Nat} {bs : List Bool} (h : Gone n s f i bs) (hs : 1 ≤ s) (hi : i < n) (hf : i % s = f) : Gone n s f (i + s) (bs.set i false) := by
  have hl := h.1
  refine ⟨by simpa using hl, fun t ht => ?_⟩
  simp only [List.getD_eq_getElem?_getD, List.getElem?_set]
  by_cases e : i = t
  · subst e
    rw [if_pos rfl, if_pos (by omega)]
    simp [hf]; omega
  · rw [if_neg e]
    have := h.2 t ht
    rw [List.getD_eq_getElem?_getD] at this
    rw [this]
    by_cases c : t % s = f
    · by_cases d : t < i
      · have : t < i + s := by omega
        simp [d, this]
      · have : ¬ t < i + s := by
          intro g
          have h1 : (t - i) % s = 0 := Nat.sub_mod_eq_zero_of_mod_eq (by rw [c, hf])
          rw [Nat.mod_eq_of_lt (by omega)] at h1
          omega
        simp [d, this]
    · simp [c]
theorem Gone.all {n s f : Nat} {bs : List Bool} (h : Gone n s f 0 bs) (hs : 1 ≤ s) (hf : s ≤ f ∨ n ≤ f) : bs.count false = n ∧ (0 < n → giveOf bs 0 = (2, bs)) := by
  have hall : ∀ t, t < n → bs.getD t false = false := by
    intro t ht
    rw [h.2 t ht]
    have h1 : t % s < s := Nat.mod_lt _ (by omega)
    have h2 : t % s ≤ t := Nat.mod_le _ _
    have : t % s < f := by omega
    simp [this]
  have hl := h.1
  constructor
  · have e : bs = List.replicate n false := by
      apply List.ext_getElem (by simpa using hl)
      intro i h1 h2
      have := hall i (by omega)
      simpa [h1] using this
    rw [e, List.count_replicate]; simp
  · intro h0
    unfold giveOf
    have := hall 0 h0
    rw [if_pos (by omega), show bget bs 0 = bs.getD 0 false from rfl, this]
    rfl
theorem gone_count {bs : List Bool} {i : Nat} (hi : i < bs.length) (hb : bs.getD i false = true) : (bs.set i false).count false = bs.count false + 1 := by
  have h1 := cnt_set bs i false hi
  have h2 := cnt_false bs
  have h3 := cnt_false (bs.set i false)
  rw [hb] at h1
  rw [List.length_set] at h3
  simp at h1
  omega

theorem whole_out (x0 x1 : Int) (w : World) (hT : Tab w) (h : x0 < 1 ∨ 200 < x0 ∨ x1 < 1 ∨ 200 < x1) :
    Calls Tryd.prog 8 #[.int .i64 x0, .int .i64 x1] w fun e w' => e = .returned (.bool true) ∧ Below w.heap.size w w' := by
  by_cases h1 : x0 < 1
  · clear h
    go_enter Tryd.func8, Tryd.ntmps8
    go_wp2_with (go_at_call 9; refine (works_any _ hT).mono ?_; rintro e w1 ⟨rfl, hb⟩)
    go_ret
    exact ⟨rfl, hb⟩
  · by_cases h2 : 200 < x0
    · clear h
      go_enter Tryd.func8, Tryd.ntmps8
      go_wp2_with (go_at_call 9; refine (works_any _ hT).mono ?_; rintro e w1 ⟨rfl, hb⟩)
      go_ret
      exact ⟨rfl, hb⟩
    · by_cases h3 : x1 < 1
      · clear h
        go_enter Tryd.func8, Tryd.ntmps8
        go_wp2_with (go_at_call 9; refine (works_any _ hT).mono ?_; rintro e w1 ⟨rfl, hb⟩)
        go_ret
        exact ⟨rfl, hb⟩
      · have h4 : 200 < x1 := by omega
        clear h
        go_enter Tryd.func8, Tryd.ntmps8
        go_wp2_with (go_at_call 9; refine (works_any _ hT).mono ?_; rintro e w1 ⟨rfl, hb⟩)
        go_ret
        exact ⟨rfl, hb⟩

set_option maxHeartbeats 4000000 in
theorem whole_in (n s : Nat) (w : World) (hT : Tab w) (hn1 : 1 ≤ n) (hn : n ≤ 200) (hs1 : 1 ≤ s) (hs : s ≤ 200) :
    Calls Tryd.prog 8 #[.int .i64 n, .int .i64 s] w fun e w' => e = .returned (.bool true) ∧ Below w.heap.size w w' := by
  have hd1 : decide ((n : Int) < 1) = false := by simp; omega
  have hd2 : decide ((200 : Int) < (n : Int)) = false := by simp; omega
  have hd3 : decide ((s : Int) < 1) = false := by simp; omega
  have hd4 : decide ((200 : Int) < (s : Int)) = false := by simp; omega
  go_enter Tryd.func8, Tryd.ntmps8
  go_wp2_with fail
  refine (works_any _ hT).mono ?_
  rintro e w1 ⟨rfl, hb⟩
  have hT1 := hT.below hb hT.pos
  go_wp2_with fail
  refine (newL n n w w1 hT1 hb hT.pos (Or.inr (Or.inl ⟨rfl, by omega⟩))).mono ?_
  rintro e w2 ⟨bp, bm, bw, rfl, hp⟩
  clear hT1 hb hT
  go_wp2
  go_loopw [7] (fun i wr => ∃ j : Nat, j ≤ n ∧ i = .int .i64 j ∧ Pl w.heap.size w wr bp bm bw (fill (List.replicate n false) 0 j)) (fun i _ => n - (intOf i).toNat)
  case atStart => exact ⟨0, by omega, rfl, hp⟩
  case round =>
    clear hp
    obtain ⟨j, hj, rfl, hp⟩ := hrel
    by_cases hlt : j < n
    · have HS : Hid (runOf (fill (List.replicate n false) 0 j) 1 = ((j : Int), 0, fill (List.replicate n false) 0 (j + 1))) := take_seq n j (by omega)
      have hjj : ((j : Int) != (j : Int)) = false := by simp
      go_wp2_with fail
      refine (takeL hp).mono ?_
      rintro e w3 ⟨rfl, h3⟩
      rw [HS.out] at h3 ⊢
      clear hp HS
      go_wp2_with fail
      go_roundw
      case rel => exact ⟨j + 1, by omega, by go_num, h3⟩
      case measure => simp [intOf]; omega
    · obtain rfl : j = n := by omega
      have HS : Hid (runOf (fill (List.replicate j false) 0 j) 1 = (-1, 3, fill (List.replicate j false) 0 j)) := take_full fun i hi => by
        rw [fill_len, List.length_replicate] at hi
        rw [fill_get _ _ _ _ (by simp), if_pos (by omega)]
      have HF : Hid ((fill (List.replicate j false) 0 j).count false = 0) := by show _ = _; rw [seq_free j j (Nat.le_refl _)]; omega
      go_wp2_with fail
      refine (takeL hp).mono ?_
      rintro e w3 ⟨rfl, h3⟩
      rw [HS.out] at h3 ⊢
      clear hp HS
      go_wp2
      go_loopw [12, 13] (fun bk fv wr => ∃ f : Nat, f ≤ s ∧ f ≤ j ∧ fv = .int .i64 f ∧ ∃ bs : List Bool, Pl w.heap.size w wr bp bm bw bs ∧ Hid (Gone j s f 0 bs) ∧ ∃ C : Nat, bk = .int .i64 C ∧ C ≤ j ∧ Hid (C = bs.count false)) (fun _ fv _ => s - (intOf fv).toNat)
      case atStart => exact ⟨0, by omega, by omega, rfl, _, h3, Gone.start, 0, rfl, by omega, HF.out.symm⟩
      case round =>
        clear h3 HF
        obtain ⟨f, hfs, hfj, rfl, bs, h4, HG, C, rfl, hC, HC⟩ := hrel
        by_cases hc : f < s ∧ f < j
        · obtain ⟨hc1, hc2⟩ := hc
          have HG' : Hid (Gone j s f f bs) := HG.out.begin
          have hmod : f % s = f := Nat.mod_eq_of_lt hc1
          have HM : Hid (f % s = f) := hmod
          clear HG hmod
          go_wp2
          go_loopw [12, 14] (fun bk iv wr => ∃ i : Nat, i ≤ j + s ∧ iv = .int .i64 i ∧ Hid (i % s = f) ∧ ∃ bs : List Bool, Pl w.heap.size w wr bp bm bw bs ∧ Hid (Gone j s f i bs) ∧ ∃ C : Nat, bk = .int .i64 C ∧ C ≤ j ∧ Hid (C = bs.count false)) (fun _ iv _ => j + s - (intOf iv).toNat)
          case atStart => exact ⟨f, by omega, rfl, HM, bs, h4, HG', C, rfl, hC, HC⟩
          case round =>
            clear h4 HG' HC hC
            obtain ⟨i, hi, rfl, HI, bs, h4, HG, C, rfl, hC, HC⟩ := hrel
            by_cases hij : i < j
            · have HO : Hid (giveOf bs i = (0, bs.set i false)) := (HG.out.on hij HI.out).1
              have hil : i < bs.length := by have := HG.out.1; omega
              have HC' : Hid (C + 1 = (bs.set i false).count false) := by
                show _ = _
                rw [gone_count hil (HG.out.on hij HI.out).2, ← HC.out]
              have hC' : C + 1 ≤ j := by
                have h1 := HC'.out
                have h2 : (bs.set i false).count false ≤ (bs.set i false).length := List.count_le_length
                rw [List.length_set, HG.out.1] at h2
                omega
              have HG' : Hid (Gone j s f (i + s) (bs.set i false)) := HG.out.step hs1 hij HI.out
              have HI' : Hid ((i + s) % s = f) := by show _ = _; rw [Nat.add_mod_right]; exact HI.out
              clear HG HC hil HI
              go_wp2_with fail
              refine (giveL i h4).mono ?_
              rintro e w5 ⟨rfl, h5⟩
              rw [HO.out] at h5 ⊢
              clear h4 HO
              go_wp2_with fail
              go_roundw
              case rel => exact ⟨i + s, by omega, by go_num, HI', _, h5, HG', C + 1, by go_num, hC', HC'⟩
              case measure => simp [intOf]; omega
            · have HG' : Hid (Gone j s (f + 1) 0 bs) := HG.out.done (by omega)
              clear HG
              go_wp2
              go_roundw
              case rel => exact ⟨f + 1, by omega, by omega, by go_num, bs, h4, HG', C, rfl, hC, HC⟩
              case measure => simp [intOf]; omega
        · obtain ⟨a1, a2⟩ := HG.out.all hs1 (by omega)
          have HA : Hid (giveOf bs 0 = (2, bs)) := a2 (by omega)
          have HN : Hid (bs.count false = j) := a1
          obtain rfl : C = j := by rw [HC.out]; exact a1
          have hcc : ((C : Int) == (C : Int)) = true := by simp
          have hfin : (if decide ((f : Int) < (s : Int)) then decide ((f : Int) < (C : Int)) else false) = false := by
            by_cases h1 : f < s
            · have h2 : ¬ f < C := fun h => hc ⟨h1, h⟩
              simp; omega
            · simp; omega
          clear HG HC a1 a2
          by_cases h1 : f < s
          · have h2 : ¬ f < C := fun h => hc ⟨h1, h⟩
            clear hc hfin
            go_wp2_with fail
            refine (freeL h4).mono ?_
            rintro e w5 ⟨rfl, h5⟩
            rw [HN.out]
            clear h4 HN
            go_wp2_with fail
            refine (giveL 0 h5).mono ?_
            rintro e w6 ⟨rfl, h6⟩
            rw [HA.out] at h6 ⊢
            have HB : Hid (Below w.heap.size w w6) := h6.bel
            clear h5 h6 HA
            go_wp2_with fail
            go_ret
            exact ⟨rfl, HB.out⟩
          · clear hc hfin
            go_wp2_with fail
            refine (freeL h4).mono ?_
            rintro e w5 ⟨rfl, h5⟩
            rw [HN.out]
            clear h4 HN
            go_wp2_with fail
            refine (giveL 0 h5).mono ?_
            rintro e w6 ⟨rfl, h6⟩
            rw [HA.out] at h6 ⊢
            have HB : Hid (Below w.heap.size w w6) := h6.bel
            clear h5 h6 HA
            go_wp2_with fail
            go_ret
            exact ⟨rfl, HB.out⟩

theorem whole_walk (x0 x1 : Int) (w : World) (hT : Tab w) (_ : -9223372036854775808 ≤ x0 ∧ x0 ≤ 9223372036854775807) (_ : -9223372036854775808 ≤ x1 ∧ x1 ≤ 9223372036854775807) :
    Calls Tryd.prog 8 #[.int .i64 x0, .int .i64 x1] w fun e w' => e = .returned (.bool true) ∧ Below w.heap.size w w' := by
  by_cases h : x0 < 1 ∨ 200 < x0 ∨ x1 < 1 ∨ 200 < x1
  · exact whole_out x0 x1 w hT h
  · obtain ⟨n, rfl⟩ := Int.eq_ofNat_of_zero_le (show 0 ≤ x0 by omega)
    obtain ⟨s, rfl⟩ := Int.eq_ofNat_of_zero_le (show 0 ≤ x1 by omega)
    exact whole_in n s w hT (by omega) (by omega) (by omega) (by omega)

end Go.Proofs.YtijoocoacaogoaaDoor
