/-
  The document's table: contracts of Drop and Set.
-/
import Derived.Test.YtaecacbapeogdaaR1
namespace Go.Proofs.Ytaecacbapeogdaa
open Go.RowKit

theorem info56 : (Try.prog.info? 56).map (fun i => (i.zero, i.size, i.bytes)) = some (some (.agg #[.int .i64 0, .int .u64 0]), 2, 16) := by kernel_rfl
theorem cell_two_new (w : World) (x y : Value) (t : TypeId) : ∀ (j : Nat) (u : Value), [x, y][j]? = some u → (w.alloc (.cells #[x, y] t)).cell? ((⟨w.heap.size, 0, none⟩ : Addr).add j) = some u := by
  intro j u hu
  rw [Addr.add_mid, Nat.zero_add, (RowAt.new w #[x, y] t).cell]
  exact hu
theorem own_base {w : World} {B B' e c : Nat} {v : Value} {n : Nat} {xs : List Value} (h : w.ownsRow B' e c v n xs) (hB : B ≤ B') : w.ownsRow B e c v n xs := by
  refine ⟨h.1, ?_⟩
  rcases h.2 with hn | ⟨g, cap, cur, rfl, hb, rest⟩
  · exact .inl hn
  · exact .inr ⟨g, cap, cur, rfl, Nat.le_trans hB hb, rest⟩
/-- The row put into the table. -/
theorem RefIs.put {w w1 : World} {B r : Nat} {D D' : Ws} {v v' : Value} (h : RefIs w B r D v) (hb : Below w.heap.size w w1) (hBw : B ≤ w.heap.size) (hr : w1.ownsRow w.heap.size 56 2 v' D'.length (flat D')) :
    RefIs (w1.setCell ⟨r, 0, none⟩ v') B r D' v' ∧ Turn (fun k => k = r) w (w1.setCell ⟨r, 0, none⟩ v') := by
  have hrl := h.h.lt
  have h1 := h.h.below hb hrl
  refine ⟨⟨by simpa using h1.set 0 v', own_base (own_turn hr fun k hk _ => heap_setCell_other _ _ k _ (show k ≠ r by omega)) hBw, h.lo⟩, ?_⟩
  exact (Turn.ofBelow hb).trans (Turn.ofBut (But.setCell _ _ _ _) rfl)

def dropD (D : Ws) (x : Int) : Ws := D.filter fun e => (e.1 : Int) != x
theorem dropD_take (D : Ws) (x : Int) (i : Nat) (hi : i < D.length) : dropD (D.take (i + 1)) x = if (D[i].1 : Int) != x then dropD (D.take i) x ++ [D[i]] else dropD (D.take i) x := by
  unfold dropD
  rw [← List.take_append_getElem hi, List.filter_append]
  cases h : ((D[i].1 : Int) != x) <;> simp [h]
theorem dropD_rise {D : Ws} (h : Rise D) (x : Int) : Rise (dropD D x) := h.filter _
theorem dropD_look {D : Ws} (h : Rise D) (hb : ∀ e ∈ D, e.1 < 65536) (x : Int) : lookD (dropD D x) = delI (lookD D) x := by
  apply lookD_ext (dropD_rise h x)
  intro p y
  unfold dropD
  rw [List.mem_filter]
  unfold delI
  cases hx : isPg x with
  | false =>
    rw [if_neg (by decide), lookD_some h]
    constructor
    · exact fun h => h.1
    · intro h1
      refine ⟨h1, ?_⟩
      have := hb _ h1
      simp only at this
      have hne : (p : Int) ≠ x := fun e => by
        rw [← e, isPg_nat this] at hx
        cases hx
      simpa using hne
  | true =>
    obtain ⟨q, rfl, hq⟩ := isPg_true hx
    rw [if_pos rfl, Int.toNat_natCast]
    unfold delW
    by_cases e : p = q
    · rw [if_pos e]
      subst e
      simp
    · rw [if_neg e, lookD_some h]
      constructor
      · exact fun h => h.1
      · intro h1
        exact ⟨h1, by simp only [bne_iff_ne, ne_eq]; omega⟩
theorem dropD_len {D : Ws} (h : Rise D) (x : Int) : getB (lookD D) x = decide ((dropD D x).length < D.length) := by
  by_cases hx : ∃ e ∈ D, (e.1 : Int) = x
  · obtain ⟨e, he, rfl⟩ := hx
    rw [getB_nat, (lookD_some h).2 (show (e.1, e.2) ∈ D from he)]
    have : (dropD D e.1).length < D.length := by
      unfold dropD
      exact List.length_filter_lt_length_iff_exists.2 ⟨e, he, by simp⟩
    simp [this]
  · have : dropD D x = D := by
      unfold dropD
      rw [List.filter_eq_self]
      intro e he
      simp only [bne_iff_ne, ne_eq]
      exact fun e1 => hx ⟨e, he, e1⟩
    rw [this]
    have hg : getB (lookD D) x = false := by
      unfold getB
      split
      · rename_i h0
        cases hl : lookD D x.toNat with
        | none => rfl
        | some y => exact absurd ⟨_, (lookD_some h).1 hl, by simp only; omega⟩ hx
      · rfl
    rw [hg]
    simp

set_option maxHeartbeats 2000000 in
theorem rdrop (B r : Nat) (D : Ws) (v : Value) (x : Int) (w : World) (h : RefIs w B r D v) (hBw : B ≤ w.heap.size) (hR : Rise D) (hD : D.length < 100000) :
    Calls Try.prog 13 #[.pointer (some ⟨r, 0, none⟩), .int .i64 x] w fun e w' => ∃ v', e = .returned (.bool (getB (lookD D) x)) ∧ RefIs w' B r (dropD D x) v' ∧ Turn (fun k => k = r) w w' := by
  obtain ⟨i0, hi, hz0, hz1, hz2⟩ := info_parts info56
  have HL : Hid (getB (lookD D) x = decide ((dropD D x).length < D.length)) := dropD_len hR x
  obtain ⟨av, cv, rfl⟩ := h.len
  have HB : Hid (∀ wx, Below w.heap.size w wx → RefIs wx B r D (.slice av D.length cv)) := fun wx hb => h.below hb
  have HP : Hid (∀ w1 v', Below w.heap.size w w1 → w1.ownsRow w.heap.size 56 2 v' (dropD D x).length (flat (dropD D x)) → RefIs (w1.setCell ⟨r, 0, none⟩ v') B r (dropD D x) v' ∧ Turn (fun k => k = r) w (w1.setCell ⟨r, 0, none⟩ v')) := fun w1 v' hb hr => h.put hb hBw hr
  have hc := h.c0
  clear h
  go_enter Try.func13, Try.ntmps13
  go_wp2
  go_loopw [5, 6] (fun s5 s6 wr => ∃ i : Nat, i ≤ D.length ∧ s6 = .int .i64 i ∧ wr.ownsRow w.heap.size 56 2 s5 (dropD (D.take i) x).length (flat (dropD (D.take i) x)) ∧ Below w.heap.size w wr) (fun _ s6 _ => D.length - (intOf s6).toNat)
  case atStart => exact ⟨0, by omega, rfl, World.ownsRow_nil _ _ _ _, Below.refl _ _⟩
  case round =>
    clear hc
    obtain ⟨i, hil, rfl, hrow, hb⟩ := hrel
    have hr := HB.out _ hb
    have hc := hr.c0
    have hbs := hb.size
    by_cases hlt : i < D.length
    · obtain ⟨g, cap', hv, e0, e1⟩ := hr.at hlt
      injection hv with hv1 _ hv2
      subst hv1
      subst hv2
      have HT := dropD_take D x i hlt
      have hll : (dropD (D.take i) x).length ≤ i := by
        unfold dropD
        exact Nat.le_trans (List.length_filter_le _ _) (by simp; omega)
      obtain ⟨y, hy⟩ : ∃ y, y = D[i].1 := ⟨_, rfl⟩
      obtain ⟨z, hz⟩ : ∃ z, z = D[i].2 := ⟨_, rfl⟩
      have hD : D[i] = (y, z) := by rw [hy, hz]
      rw [hD] at HT
      rw [← hy] at e0
      rw [← hz] at e1
      have HTT : Hid (dropD (D.take (i + 1)) x = if ((y : Int) != x) = true then dropD (D.take i) x ++ [(y, z)] else dropD (D.take i) x) := HT
      clear hy hz HT hr hD
      cases q1 : ((y : Int) != x) with
      | false =>
        have HT2 : Hid (dropD (D.take (i + 1)) x = dropD (D.take i) x) := by show _ = _; rw [HTT.out, q1]; rfl
        go_wp2
        exact ⟨⟨i + 1, by omega, by go_num, by rw [HT2.out]; exact hrow, hb⟩, by simp [intOf]; omega⟩
      | true =>
        have HT2 : Hid (dropD (D.take (i + 1)) x = dropD (D.take i) x ++ [(y, z)]) := by show _ = _; rw [HTT.out, q1]; rfl
        go_wp2_with (at_builtin; refine wpList_append_own _ rfl _ _ 27 rfl w.heap.size 56 i0 (.agg #[.int .i64 0, .int .u64 0]) 2 16 Try.underlying27 hi hz0 hz1 hz2 rfl (by decide) u5 _ _ rfl (hrow.alloc _) ⟨wr.heap.size, 0, none⟩ 1 1 [.int .i64 y, .int .u64 z] rfl rfl (cell_two_new _ _ _ _) (by simp [Value.oneCell']) (by unfold maxLen; omega) (by omega) (by simp; omega) ?_; intro v' w3 hown' hgrow _)
        have hg : (wr.alloc (.cells #[.int .i64 y, .int .u64 z] 56)).grownBy w3 u5.ownBlock := hgrow
        have hb3 : Below w.heap.size w w3 := (hb.trans ((below_alloc _ _).mono hbs)).grown hg (by simp; omega) fun j ej => (hrow.lt j ej).1
        have hr3 : w3.ownsRow w.heap.size 56 2 v' (dropD (D.take (i + 1)) x).length (flat (dropD (D.take (i + 1)) x)) := by rw [HT2.out, flat_snoc]; simpa [wdCells] using hown'
        exact ⟨⟨i + 1, by omega, by go_num, hr3, hb3⟩, by simp [intOf]; omega⟩
    · have : D.take i = D := List.take_of_length_le (by omega)
      rw [this] at hrow
      obtain ⟨al, cl, rfl, -⟩ := own_form hrow
      have hfr := hr.h.frozen 0
      obtain ⟨z1, z2⟩ := HP.out _ _ hb hrow
      have Z1 : Hid (RefIs (wr.setCell ⟨r, 0, none⟩ (.slice al (dropD D x).length cl)) B r (dropD D x) (.slice al (dropD D x).length cl)) := z1
      have Z2 : Hid (Turn (fun k => k = r) w (wr.setCell ⟨r, 0, none⟩ (.slice al (dropD D x).length cl))) := z2
      clear z1 z2 this hrow hr
      go_wp2
      go_ret
      exact ⟨_, by rw [HL.out]; rfl, Z1.out, Z2.out⟩
end Go.Proofs.Ytaecacbapeogdaa
