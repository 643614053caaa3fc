/-
  The contract of the document's Order.
-/
import Derived.Test.YtfmgmelgfnppkaaR5
namespace Go.Proofs.Ytfmgmelgfnppkaa
open Go.RowKit

/-- What the first j ages give. -/
def acc (L : List En) (G : List Int) : Nat → List En
  | 0 => []
  | j + 1 => acc L G j ++ ordA L G (3 - (j : Int))
theorem acc_four (L : List En) (G : List Int) : acc L G 4 = ordL L G := by
  simp [acc, ordL]
theorem ordA_next (L : List En) (G : List Int) (a : Int) {k : Nat} (hk : k < L.length) : ordA (L.take (k + 1)) G a = ordA (L.take k) G a ++ if inG G (L.getD k nz) && (L.getD k nz).a == a then [L.getD k nz] else [] := by
  unfold ordA
  rw [take_snoc hk, List.filter_append, List.filter_cons]
  simp
theorem acc_le (L : List En) (G : List Int) (j : Nat) : (acc L G j).length ≤ j * L.length := by
  induction j with
  | zero => simp [acc]
  | succ j ih =>
    simp only [acc, List.length_append]
    have : (ordA L G (3 - (j : Int))).length ≤ L.length := List.length_filter_le ..
    rw [Nat.add_mul]; omega
theorem part_le (L : List En) (G : List Int) (a : Int) (k : Nat) : (ordA (L.take k) G a).length ≤ L.length := by
  have h1 : (ordA (L.take k) G a).length ≤ (L.take k).length := List.length_filter_le ..
  have h2 : (L.take k).length ≤ L.length := by rw [List.length_take]; omega
  omega
theorem any_next (G : List Int) (x : Int) {q : Nat} (hq : q < G.length) : ((G.take (q + 1)).any fun g => g == x) = (((G.take q).any fun g => g == x) || G[q] == x) := by
  rw [← List.take_append_getElem hq, List.any_append]
  simp

theorem ints_of_own {w : World} {B c : Nat} {a : Option Addr} {C : List Int} (h : w.ownsRow B 3 1 (.slice a C.length c) C.length (C.map iv)) (hw : ∀ x ∈ C, (Lit.int .i64 x).wf = true) : Ints w a C := by
  refine ⟨fun j hj => ?_, hw⟩
  obtain ⟨a', c', e, h2⟩ := own_form h
  injection e with e1 e2 e3
  subst e1
  obtain ⟨g, rfl, h3⟩ := h2 (by omega)
  refine ⟨g, 0, rfl, ?_⟩
  rw [Nat.zero_add, h3 j (by omega)]
  simp [iv, hj]

set_option maxRecDepth 100000 in
set_option maxHeartbeats 4000000 in
theorem rorder (B r : Nat) (L : List En) (ag : Option Addr) (cg : Nat) (G : List Int) (w : World) (h : RefIs B w r L) (hG : Ints w ag G) (hL : L.length < 100000) (hGl : G.length < 1000000) :
    Calls Try.prog 18 #[.pointer (some ⟨r, 0, none⟩), .slice ag G.length cg] w fun e w' => ∃ a' c' N, N = (ordL L G).map (·.i) ∧ e = .returned (.slice a' N.length c') ∧ Ints w' a' N ∧ Below w.heap.size w w' := by
  have HOK : Hid (Ok L) := h.ok
  obtain ⟨ar, cap, hc, hat, -, -⟩ := h.open
  have HA : Hid (∀ k, k < L.length → ∃ b, ar = some ⟨b, 0, none⟩ ∧ w.cell? ⟨b, k * 3, none⟩ = some (.int .i64 (L.getD k nz).i) ∧ w.cell? ⟨b, k * 3 + 1, none⟩ = some (.int .i64 (L.getD k nz).g) ∧ w.cell? ⟨b, k * 3 + 2, none⟩ = some (.int .i64 (L.getD k nz).a)) := hat
  have HC : Hid (w.cell? ⟨r, 0, none⟩ = some (.slice ar L.length cap)) := hc
  have HI : Hid (Ints w ag G) := hG
  have HLE : Hid (∀ j, (acc L G j).length ≤ j * L.length) := acc_le L G
  clear h hat hG hc
  go_enter Try.func18, Try.ntmps18
  go_wp2_with fail
  go_loopw [5, 6] (fun s5 s6 wr => ∃ (j : Nat) (C : List Int), j ≤ 4 ∧ s6 = .int .i64 (3 - (j : Int)) ∧ C = (acc L G j).map (·.i) ∧ wr.ownsRow w.heap.size 3 1 s5 C.length (C.map iv) ∧ Below w.heap.size w wr) (fun _ s6 _ => (intOf s6 + 1).toNat)
  case atStart => exact ⟨0, [], by omega, rfl, rfl, World.ownsRow_nil _ _ _ _, Below.refl _ _⟩
  case round =>
    obtain ⟨j, C, hj, rfl, hC, hown, hb⟩ := hrel
    have HCC : Hid (C = (acc L G j).map (·.i)) := hC
    clear hC
    by_cases hj4 : j < 4
    · obtain ⟨A, hA⟩ : ∃ A : Int, A = 3 - (j : Int) := ⟨_, rfl⟩
      rw [← hA]
      have hA0 : 0 ≤ A := by omega
      have hA3 : A ≤ 3 := by omega
      have hd : decide (0 ≤ A) = true := by simpa using hA0
      have HJ : Hid (A = 3 - (j : Int)) := hA
      clear hA
      go_wp2_with fail
      go_loopw [5, 7] (fun s5 s7 wr => ∃ (k : Nat) (C : List Int), k ≤ L.length ∧ s7 = .int .i64 k ∧ C = (acc L G j ++ ordA (L.take k) G A).map (·.i) ∧ wr.ownsRow w.heap.size 3 1 s5 C.length (C.map iv) ∧ Below w.heap.size w wr) (fun _ s7 _ => L.length - (intOf s7).toNat)
      case atStart => exact ⟨0, C, by omega, rfl, by rw [HCC.out]; simp [ordA], hown, hb⟩
      case round =>
        clear hown hb HCC
        obtain ⟨k, C, hk, rfl, hC, hown, hb⟩ := hrel
        have HCC : Hid (C = (acc L G j ++ ordA (L.take k) G A).map (·.i)) := hC
        have hcl : C.length < 1000000 := by
          rw [hC, List.length_map, List.length_append]
          have h1 := HLE.out j
          have h2 := part_le L G A k
          have h3 : j * L.length ≤ 4 * L.length := Nat.mul_le_mul_right _ (by omega)
          omega
        clear hC
        have hcr := cell_later hb HC.out
        by_cases hkl : k < L.length
        · have hqd : decide ((k : Int) < (L.length : Int)) = true := by simp; omega
          obtain ⟨b, rfl, k0, k1, k2⟩ := HA.out k hkl
          obtain ⟨⟨yi, yg, ya⟩, he⟩ : ∃ y, y = L.getD k nz := ⟨_, rfl⟩
          rw [← he] at k0 k1 k2
          simp only at k0 k1 k2
          have HEQ : Hid ((⟨yi, yg, ya⟩ : En) = L.getD k nz) := he
          have c0 := cell_later hb k0
          have c1 := cell_later hb k1
          have c2 := cell_later hb k2
          clear he k0 k1 k2
          go_wp2_with fail
          obtain ⟨wo, rfl⟩ : ∃ wo, wo = wr := ⟨_, rfl⟩
          go_loopw [8, 9] (fun s8 s9 wx => ∃ (q : Nat) (p : Bool), q ≤ G.length ∧ s9 = .int .i64 q ∧ s8 = .bool p ∧ p = ((G.take q).any fun g => g == yg) ∧ ∃ n, wx = wo.drewN n) (fun _ s9 _ => G.length - (intOf s9).toNat)
          case atStart => exact ⟨0, false, by omega, rfl, rfl, rfl, 0, rfl⟩
          case round =>
            obtain ⟨q, p, hq, rfl, rfl, hp, n, rfl⟩ := hrel
            have HPP : Hid (p = (G.take q).any fun g => g == yg) := hp
            clear hp
            by_cases hql : q < G.length
            · have hqq : decide ((q : Int) < (G.length : Int)) = true := by simp; omega
              obtain ⟨bg, og, rfl, hgc, -⟩ := (HI.out.later hb).get hql
              obtain ⟨z, hz⟩ : ∃ z, z = G[q] := ⟨_, rfl⟩
              rw [← hz] at hgc
              have HZ : Hid (((G.take (q + 1)).any fun g => g == yg) = (p || z == yg)) := by show _ = _; rw [any_next G yg hql, hz, HPP.out]
              clear hz
              cases p with
              | true =>
                go_wp2_with fail
                go_quiet (fail)
                go_wp2
                exact ⟨⟨q + 1, true, by omega, by go_num, rfl, HZ.out.symm, _, rfl⟩, by simp [intOf]; omega⟩
              | false =>
                cases hzy : (z == yg)
                all_goals
                  rw [hzy] at HZ
                  go_wp2_with fail
                  go_quiet (fail)
                  go_wp2
                  exact ⟨⟨q + 1, _, by omega, by go_num, rfl, HZ.out.symm, _, rfl⟩, by simp [intOf]; omega⟩
            · obtain rfl : q = G.length := by omega
              have hqq : decide ((G.length : Int) < (G.length : Int)) = false := by simp
              have hpe : p = inG G ⟨yi, yg, ya⟩ := by rw [HPP.out, List.take_length]; rfl
              have hnx := ordA_next L G A hkl
              rw [← HEQ.out, ← hpe] at hnx
              have hwn : Below wo.heap.size wo (wo.drewN n) := ⟨rfl, rfl, rfl, Nat.le_refl _, fun _ _ => rfl⟩
              have hown2 := own_below hown hwn
              have hb2 := bel_drew hb n
              have c0' := cell_later hwn c0
              have c1' := cell_later hwn c1
              have c2' := cell_later hwn c2
              have hcr' := cell_later hwn hcr
              have hbz := hb.size
              have HB2 : Hid (Below w.heap.size w (wo.drewN n)) := hb2
              have HOW2 : Hid ((wo.drewN n).ownsRow w.heap.size 3 1 u5 C.length (C.map iv)) := hown2
              cases p with
              | false =>
                have HN : Hid (C = (acc L G j ++ ordA (L.take (k + 1)) G A).map (·.i)) := by show _ = _; rw [hnx, HCC.out]; simp
                clear hpe hnx hwn hown hb hb2 hown2 HPP c0 c1 c2 hcr
                go_wp2
                exact ⟨⟨k + 1, C, by omega, by go_num, HN.out, HOW2.out, HB2.out⟩, by simp [intOf]; omega⟩
              | true =>
                cases hya : (ya == A)
                · have HN : Hid (C = (acc L G j ++ ordA (L.take (k + 1)) G A).map (·.i)) := by show _ = _; rw [hnx, HCC.out]; simp [hya]
                  clear hpe hnx hwn hown hb hb2 hown2 HPP c0 c1 c2 hcr
                  go_wp2
                  exact ⟨⟨k + 1, C, by omega, by go_num, HN.out, HOW2.out, HB2.out⟩, by simp [intOf]; omega⟩
                · have HN : Hid (C ++ [yi] = (acc L G j ++ ordA (L.take (k + 1)) G A).map (·.i)) := by show _ = _; rw [hnx, HCC.out]; simp [hya]
                  clear hpe hnx hwn hown hb hb2 hown2 HPP c0 c1 c2 hcr
                  go_wp2_with (at_builtin; refine app_int w.heap.size C (wo.drewN n) rfl _ _ rfl u5 rfl HOW2.out yi _ (by simp) rfl (by omega) HB2.out.size ?_; intro v5 w5 hown5 hb5)
                  exact ⟨⟨k + 1, C ++ [yi], by omega, by go_num, HN.out, hown5, HB2.out.trans hb5⟩, by simp [intOf]; omega⟩
        · obtain rfl : k = L.length := by omega
          have hqd : decide ((L.length : Int) < (L.length : Int)) = false := by simp
          have HN : Hid (C = (acc L G (j + 1)).map (·.i)) := by show _ = _; rw [HCC.out, List.take_length, HJ.out]; rfl
          have HV : Hid (A - 1 = 3 - ((j + 1 : Nat) : Int)) := by show _ = _; have := HJ.out; omega
          clear HCC
          go_wp2
          exact ⟨⟨j + 1, C, by omega, by rw [← HV.out], HN.out, hown, hb⟩, by simp [intOf]; omega⟩
    · obtain rfl : j = 4 := by omega
      obtain ⟨a5, c5, rfl, -⟩ := own_form hown
      have HN : Hid (C = (ordL L G).map (·.i)) := by show _ = _; rw [HCC.out, acc_four]
      have HII : Hid (Ints wr a5 C) := ints_of_own hown fun x hx => by
        rw [HN.out] at hx
        obtain ⟨y, hy, rfl⟩ := List.mem_map.1 hx
        exact wf_rng (HOK.out.rng y ((ordL_mem HOK.out).1 hy).1)
      clear hown HCC
      go_wp2
      go_ret
      exact ⟨a5, c5, C, HN.out, rfl, HII.out, hb⟩
end Go.Proofs.Ytfmgmelgfnppkaa
