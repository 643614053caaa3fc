/-
  The contracts of the document's Drop and Add.
-/
import Derived.Test.YtfmgmelgfnppkaaR3
namespace Go.Proofs.Ytfmgmelgfnppkaa
open Go.RowKit

theorem own_lower {w : World} {B B' e c n : Nat} {v : Value} {xs : List Value} (h : w.ownsRow B e c v n xs) (hB : B' ≤ B) : w.ownsRow B' e c v n xs := by
  refine ⟨h.1, ?_⟩
  rcases h.2 with hn | ⟨g, cap, cur, rfl, hg, rest⟩
  · exact .inl hn
  · exact .inr ⟨g, cap, cur, rfl, by omega, rest⟩
/-- Structs appended to a row of one's own. -/
theorem app_en {ops : Array Oper} {rest : List Oper} {o : Oper} {a : Act} {Q : Exit → Act → World → Prop} (B : Nat) (M : List En) (wr : World) (hgd : o.guard = none) (s x : Operand)
    (ho : o.op = .call { callee := .builtin .append, args := #[s, x], argTypes := #[28, 28] }) (v : Value) (hs : a.eval s = v) (hown : wr.ownsRow B 54 3 v M.length (flatN M))
    (N : List En) (ad : Addr) (n c : Nat) (hx : a.eval x = .slice (some ad) n c) (hn : n = N.length) (hcells : ∀ j u, (flatN N)[j]? = some u → wr.cell? (ad.add j) = some u) (hl : M.length + N.length ≤ 1000000) (hb : B ≤ wr.heap.size)
    (hK : ∀ v' w3, w3.ownsRow B 54 3 v' (M ++ N).length (flatN (M ++ N)) → Below B wr w3 → wpList Try.prog ops Q rest (a.put o.dst v') w3) :
    wpList Try.prog ops Q (o :: rest) a wr := by
  subst hn
  obtain ⟨i0, hi, hz0, hz1, hz2⟩ := info_parts info54
  refine wpList_append_own _ hgd s x 28 ho B 54 i0 _ 3 24 Try.underlying28 hi hz0 hz1 hz2 rfl (by decide) v _ _ hs hown ad N.length c (flatN N) hx (flatN_len N) hcells (flatN_one N) (by unfold maxLen; omega) (by omega) hb ?_
  intro v' w' hown' hgrow _
  refine hK v' w' (by rw [List.length_append, flatN_append]; exact hown') ?_
  exact (Below.refl B wr).grown hgrow hb fun j ej => (hown.lt j ej).1
/-- One that has just been laid. -/
theorem one_cells {w : World} {q : Nat} {y : En} (h : RowAt w q 54 (nc y)) : ∀ j u, (flatN [y])[j]? = some u → w.cell? ((⟨q, 0, none⟩ : Addr).add j) = some u := by
  intro j u hu
  have : flatN [y] = nc y := by simp [flatN]
  rw [this] at hu
  rw [WideShapes.add_plain, Nat.zero_add, h.cell]
  exact hu
/-- A part of a row. -/
theorem part_cells {w : World} {B g cap : Nat} {L : List En} (h : w.ownsRow B 54 3 (.slice (some ⟨g, 0, none⟩) L.length cap) L.length (flatN L)) (k n : Nat) (hk : k + n ≤ L.length) :
    ∀ j u, (flatN ((L.drop k).take n))[j]? = some u → w.cell? ((⟨g, k * 3, none⟩ : Addr).add j) = some u := by
  intro j u hu
  have hl : ((L.drop k).take n).length = n := by simp; omega
  have hj : j < n * 3 := by
    have := (List.getElem?_eq_some_iff.1 hu).1
    rwa [flatN_len, hl] at this
  have h1 : j / 3 < n := by omega
  have h3 : j % 3 < 3 := Nat.mod_lt _ (by decide)
  have e := flatN_at ((L.drop k).take n) (j / 3) (j % 3) (by rw [hl]; exact h1) h3
  have e1 : j / 3 * 3 + j % 3 = j := by omega
  rw [e1, hu] at e
  have eg : ((L.drop k).take n).getD (j / 3) nz = L.getD (k + j / 3) nz := by
    simp only [List.getD_eq_getElem?_getD]
    rw [List.getElem?_take_of_lt h1, List.getElem?_drop]
  rw [eg] at e
  have e2 := flatN_at L (k + j / 3) (j % 3) (by omega) h3
  rw [WideShapes.add_plain, h.cellAt _ (by omega), e]
  have e3 : k * 3 + j = (k + j / 3) * 3 + j % 3 := by omega
  rw [e3, e2]

/-- The row put in the elder one's place. -/
theorem ref_put {B B2 r : Nat} {M : List En} {w : World} {v0 v : Value} (hrow : RowAt w r 30 [v0]) (hown : w.ownsRow B2 54 3 v M.length (flatN M)) (hB : B ≤ B2) (hlo : B ≤ r) (hr : r < B2) (ho : Ok M) : RefIs B (w.setCell ⟨r, 0, none⟩ v) r M :=
  ⟨⟨v, by simpa using hrow.set 0 v, own_lower (ownsRow_setCell_below hown (a := ⟨r, 0, none⟩) hr v) hB⟩, hlo, ho⟩
theorem drop_cut {L : List En} (h : Srt L) {k : Nat} (hk : k < L.length) {i : Int} (hl : lk L i = some (L.getD k nz)) : L.take k ++ L.drop (k + 1) = dropL L i := by
  have hi := (lk_some hl).2
  have e : L.getD k nz = L[k] := by simp [hk]
  rw [e] at hi
  unfold dropL
  have hL : L = L.take k ++ L[k] :: L.drop (k + 1) := by rw [← List.drop_eq_getElem_cons hk, List.take_append_drop]
  conv => rhs; rw [hL]
  rw [List.filter_append, List.filter_cons_of_neg (by simp [hi])]
  have pw := List.pairwise_iff_getElem.1 h
  congr 1
  · symm
    rw [List.filter_eq_self]
    intro x hx
    obtain ⟨j, hj, rfl⟩ := List.getElem_of_mem hx
    have hj' : j < k := by simp at hj; omega
    have := pw j k (by omega) hk hj'
    rw [List.getElem_take]
    simp; omega
  · symm
    rw [List.filter_eq_self]
    intro x hx
    obtain ⟨j, hj, rfl⟩ := List.getElem_of_mem hx
    have hj' : k + 1 + j < L.length := by simp at hj; omega
    have := pw k (k + 1 + j) hk hj' (by omega)
    rw [List.getElem_drop]
    simp; omega

set_option maxHeartbeats 2000000 in
theorem rdrop (B r : Nat) (L : List En) (i : Int) (w : World) (h : RefIs B w r L) (hL : L.length < 1000000) :
    Calls Try.prog 26 #[.pointer (some ⟨r, 0, none⟩), .int .i64 i] w fun e w' => e = .returned (.int .i64 (noneE L i)) ∧ RefIs B w' r (dropL L i) ∧ Below B w w' := by
  have HF : Hid (Calls Try.prog 31 #[.pointer (some ⟨r, 0, none⟩), .int .i64 i] w fun e w' => e = .returned (.int .i64 (fi L i)) ∧ w' = w) := rfind B r L i w h hL
  rcases fi_cases h.ok.srt i with ⟨e1, e2⟩ | ⟨k, hk, e1, e2⟩
  · rw [e1] at HF
    have HE : Hid (noneE L i = 2) := noneE_none (by rw [e2]; rfl)
    have HB : Hid (dropL L i = L) := dropL_none e2
    have H0 : Hid (RefIs B w r L) := h
    clear e1 e2 h
    go_enter Try.func26, Try.ntmps26
    go_wp2_with fail
    refine HF.out.mono ?_
    rintro e w1 ⟨rfl, rfl⟩
    go_wp2
    go_ret
    exact ⟨by rw [HE.out]; rfl, by rw [HB.out]; exact H0.out, Below.refl _ _⟩
  · rw [e1] at HF
    have HE : Hid (noneE L i = 0) := noneE_some (by rw [e2]; rfl)
    have HT : Hid (L.take k ++ L.drop (k + 1) = dropL L i) := drop_cut h.ok.srt hk e2
    have HO : Hid (Ok (dropL L i)) := dropL_ok h.ok i
    obtain ⟨a, cap, hc, hat, hown, hrow⟩ := h.open
    obtain ⟨g, ha, -, -, -⟩ := hat k hk
    subst ha
    have hcap : L.length ≤ cap := by
      rcases hown.2 with ⟨h2, _⟩ | ⟨g', cp, cur, h2, _, _, h4, _⟩
      · cases h2
      · injection h2 with _ _ h2; subst h2; exact h4
    have hgl := (hown.lt g rfl).2
    have hrl := h.lt
    have hlo := h.lo
    have hC1 : ∀ j u, (flatN (L.take k))[j]? = some u → w.cell? ((⟨g, 0, none⟩ : Addr).add j) = some u := by
      have := part_cells hown 0 k (by omega)
      rwa [List.drop_zero, Nat.zero_mul] at this
    have hC2 : ∀ j u, (flatN (L.drop (k + 1)))[j]? = some u → w.cell? ((⟨g, (k + 1) * 3, none⟩ : Addr).add j) = some u := by
      have := part_cells hown (k + 1) (L.length - (k + 1)) (by omega)
      have e : (L.drop (k + 1)).take (L.length - (k + 1)) = L.drop (k + 1) := List.take_of_length_le (by simp)
      rwa [e] at this
    have hd : decide ((k : Int) < 0) = false := by simp
    have HROW : Hid (RowAt w r 30 [.slice (some ⟨g, 0, none⟩) L.length cap]) := hrow
    have hX1 : (L.take k).length = k := by rw [List.length_take]; omega
    have hY1 : (L.drop (k + 1)).length = L.length - (k + 1) := List.length_drop
    obtain ⟨X, hX⟩ : ∃ X, X = L.take k := ⟨_, rfl⟩
    obtain ⟨Y, hY⟩ : ∃ Y, Y = L.drop (k + 1) := ⟨_, rfl⟩
    rw [← hX] at hC1 HT hX1
    rw [← hY] at hC2 HT hY1
    have HC1 : Hid (∀ j u, (flatN X)[j]? = some u → w.cell? ((⟨g, 0, none⟩ : Addr).add j) = some u) := hC1
    have HC2 : Hid (∀ j u, (flatN Y)[j]? = some u → w.cell? ((⟨g, (k + 1) * 3, none⟩ : Addr).add j) = some u) := hC2
    have HN1 : Hid (k = X.length) := hX1.symm
    have HL1 : Hid (([] : List En).length + X.length ≤ 1000000) := by show _ ≤ _; rw [hX1, List.length_nil]; omega
    have HL2 : Hid (X.length + Y.length ≤ 1000000) := by show _ ≤ _; omega
    by_cases hcc : k + 1 = cap
    · subst hcc
      have HN2 : Hid (0 = Y.length) := by show _ = _; omega
      have HC5 : ∀ w5 : World, ∀ j u, (flatN Y)[j]? = some u → w5.cell? ((⟨g, 0, none⟩ : Addr).add j) = some u := fun w5 j u hu => by
        rw [List.eq_nil_of_length_eq_zero HN2.out.symm] at hu; simp [flatN] at hu
      clear hC1 hC2 hX hY hX1 hY1 e1 e2 hat hown hrow h
      go_enter Try.func26, Try.ntmps26
      go_wp2_with fail
      refine HF.out.mono ?_
      rintro e w1 ⟨rfl, rfl⟩
      go_wp2_with (first | (at_builtin; refine app_en w1.heap.size [] w1 rfl _ _ rfl (.slice none 0 0) rfl (World.ownsRow_nil _ _ _ _) X ⟨g, 0, none⟩ k _ rfl HN1.out HC1.out HL1.out (Nat.le_refl _) ?_; intro v5 w5 hown5 hb5; obtain ⟨a5, c5, rfl, -⟩ := own_form hown5; have HOWN5 : Hid (w5.ownsRow w1.heap.size 54 3 (.slice a5 X.length c5) X.length (flatN X)) := hown5; have HB5 : Hid (Below w1.heap.size w1 w5) := hb5; have hc5 : w5.cell? ⟨r, 0, none⟩ = some (.slice (some ⟨g, 0, none⟩) L.length (k + 1)) := (by rw [(HROW.out.below hb5 hrl).cell]; rfl); clear hown5 hb5) | (at_builtin; refine app_en w1.heap.size X w5 rfl _ _ rfl (.slice a5 X.length c5) rfl HOWN5.out Y ⟨g, 0, none⟩ 0 _ rfl HN2.out (HC5 w5) HL2.out HB5.out.size ?_; intro v6 w6 hown6 hb6; obtain ⟨a6, c6, rfl, -⟩ := own_form hown6; have HOWN6 : Hid (w6.ownsRow w1.heap.size 54 3 (.slice a6 (X ++ Y).length c6) (X ++ Y).length (flatN (X ++ Y))) := hown6; have HB6 : Hid (Below w1.heap.size w5 w6) := hb6; have HROW6 : Hid (RowAt w6 r 30 [.slice (some ⟨g, 0, none⟩) L.length (k + 1)]) := ((HROW.out.below HB5.out hrl).below hb6 hrl); have hc6 := HROW6.out.cell 0; have hf6 := HROW6.out.frozen 0; clear hown6 hb6))
      go_ret
      have hp := ref_put HROW6.out HOWN6.out (by omega) hlo hrl (HT.out ▸ HO.out)
      rw [List.length_append, HT.out] at hp
      exact ⟨by rw [HE.out]; rfl, hp, ((HB5.out.trans HB6.out).mono (by omega)).setCell (p := ⟨r, 0, none⟩) hlo _⟩
    · have HN2 : Hid (L.length - (k + 1) = Y.length) := hY1.symm
      have HC5 : Hid (∀ w5 : World, Below w.heap.size w w5 → ∀ j u, (flatN Y)[j]? = some u → w5.cell? ((⟨g, (k + 1) * 3, none⟩ : Addr).add j) = some u) := fun w5 hb j u hu => cell_later hb (HC2.out j u hu)
      clear hC1 hC2 hX hY hX1 hY1 e1 e2 hat hown hrow h
      go_enter Try.func26, Try.ntmps26
      go_wp2_with fail
      refine HF.out.mono ?_
      rintro e w1 ⟨rfl, rfl⟩
      go_wp2_with (first | (at_builtin; refine app_en w1.heap.size [] w1 rfl _ _ rfl (.slice none 0 0) rfl (World.ownsRow_nil _ _ _ _) X ⟨g, 0, none⟩ k _ rfl HN1.out HC1.out HL1.out (Nat.le_refl _) ?_; intro v5 w5 hown5 hb5; obtain ⟨a5, c5, rfl, -⟩ := own_form hown5; have HOWN5 : Hid (w5.ownsRow w1.heap.size 54 3 (.slice a5 X.length c5) X.length (flatN X)) := hown5; have HB5 : Hid (Below w1.heap.size w1 w5) := hb5; have hc5 : w5.cell? ⟨r, 0, none⟩ = some (.slice (some ⟨g, 0, none⟩) L.length cap) := (by rw [(HROW.out.below hb5 hrl).cell]; rfl); clear hown5 hb5) | (at_builtin; refine app_en w1.heap.size X w5 rfl _ _ rfl (.slice a5 X.length c5) rfl HOWN5.out Y ⟨g, (k + 1) * 3, none⟩ (L.length - (k + 1)) _ rfl HN2.out (HC5.out w5 HB5.out) HL2.out HB5.out.size ?_; intro v6 w6 hown6 hb6; obtain ⟨a6, c6, rfl, -⟩ := own_form hown6; have HOWN6 : Hid (w6.ownsRow w1.heap.size 54 3 (.slice a6 (X ++ Y).length c6) (X ++ Y).length (flatN (X ++ Y))) := hown6; have HB6 : Hid (Below w1.heap.size w5 w6) := hb6; have HROW6 : Hid (RowAt w6 r 30 [.slice (some ⟨g, 0, none⟩) L.length cap]) := ((HROW.out.below HB5.out hrl).below hb6 hrl); have hc6 := HROW6.out.cell 0; have hf6 := HROW6.out.frozen 0; clear hown6 hb6))
      go_ret
      have hp := ref_put HROW6.out HOWN6.out (by omega) hlo hrl (HT.out ▸ HO.out)
      rw [List.length_append, HT.out] at hp
      exact ⟨by rw [HE.out]; rfl, hp, ((HB5.out.trans HB6.out).mono (by omega)).setCell (p := ⟨r, 0, none⟩) hlo _⟩
end Go.Proofs.Ytfmgmelgfnppkaa
