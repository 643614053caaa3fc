/-
  Groups looked through by a closure: Below and Kids.
-/
import Derived.Test.YtbceadnhfihlfaaP5
namespace Go.Proofs.Ytbceadnhfihlfaa
open Go.RowKit

theorem bel_trans {n : Nat} {a b c : World} (h : Below n a b) (k : Below b.heap.size b c) (hn : n ≤ a.heap.size) : Below n a c := h.trans (k.mono (Nat.le_trans hn h.size))
theorem cell_later {w w' : World} {p : Addr} {v : Value} (hb : Below w.heap.size w w') (h : w.cell? p = some v) : w'.cell? p = some v := by
  rw [hb.cell (p := p) (block_lt_of_cell (a := p) h)]; exact h

/-- One int appended to a row of ints that the call itself has laid. -/
theorem app_int {ops : Array Oper} {rest : List Oper} {o : Oper} {a : Act} {Q : Exit → Act → World → Prop} (w wr : World) (hgd : o.guard = none) (s x : Operand)
    (ho : o.op = .call { callee := .builtin .append, args := #[s, x], argTypes := #[35, 35] }) (l : List Int) (v : Value) (hs : a.eval s = v) (hown : wr.ownsRow w.heap.size 3 1 v l.length (l.map iv))
    (y : Int) (hx : a.eval x = .slice (some ⟨wr.heap.size, 0, none⟩) 1 1) (hl : l.length ≤ 1000000) (hb : Below w.heap.size w wr)
    (hK : ∀ v' w3, w3.ownsRow w.heap.size 3 1 v' (l ++ [y]).length ((l ++ [y]).map iv) → Below w.heap.size w w3 → wpList Try.prog ops Q rest (a.put o.dst v') w3) :
    wpList Try.prog ops Q (o :: rest) a (wr.alloc (.cells #[.int .i64 y] 3)) := by
  obtain ⟨i0, hi, hz0, hz1, hz2⟩ := info_parts info3
  have hbs := hb.size
  refine wpList_append_own _ hgd s x 35 ho w.heap.size 3 i0 (.int .i64 0) 1 8 Try.underlying35 hi hz0 hz1 hz2 rfl (by decide) v _ _ hs (hown.alloc _) ⟨wr.heap.size, 0, none⟩ 1 1 [.int .i64 y] hx rfl (cell_one_new _ _ _) (by simp [Value.oneCell']) (by unfold maxLen; omega) (by omega) (by simp; omega) ?_
  intro v' w3 hown' hgrow _
  refine hK v' w3 (by simpa [iv] using hown') ?_
  exact (hb.trans ((below_alloc _ _).mono hbs)).grown hgrow (by simp; omega) fun j ej => (hown.lt j ej).1

def thJ (G : Gr) (f : Int → Bool) (j : Nat) : List Int := ((List.range j).map Int.ofNat).filter fun x => lv G x && f x
theorem thJ_all (G : Gr) (f : Int → Bool) : thJ G f G.length = those G f := rfl
theorem thJ_yes {G : Gr} {f : Int → Bool} {j : Nat} (h1 : lv G j = true) (h2 : f j = true) : thJ G f (j + 1) = thJ G f j ++ [(j : Int)] := by
  simp [thJ, List.range_succ, List.filter_append, h1, h2]
theorem thJ_no {G : Gr} {f : Int → Bool} {j : Nat} (h : (lv G j && f j) = false) : thJ G f (j + 1) = thJ G f j := by
  have e : ((List.map Int.ofNat [j]).filter fun x => lv G x && f x) = [] := by
    have : Int.ofNat j = (j : Int) := rfl
    simp only [List.map_cons, List.map_nil, List.filter_cons, this, h]
    rfl
  simp only [thJ, List.range_succ, List.map_append, List.filter_append, e, List.append_nil]
theorem thJ_len (G : Gr) (f : Int → Bool) (j : Nat) : (thJ G f j).length ≤ j := by
  refine Nat.le_trans (List.length_filter_le _ _) ?_
  simp

set_option maxRecDepth 100000 in
set_option maxHeartbeats 4000000 in
theorem pthose (B t : Nat) (G : Gr) (f : Int → Bool) (F : Nat) (hF : F = 32 ∨ F = 34) (b c : Nat) (w : World) (hT : TreeIs B w t G)
    (hf : ∀ (x : Int) W, lv G x = true → Below w.heap.size w W → Calls Try.prog F #[.int .i64 x, .pointer (some ⟨b, 0, none⟩), .pointer (some ⟨c, 0, none⟩)] W fun e w' => e = .returned (.bool (f x)) ∧ Below W.heap.size W w') :
    Calls Try.prog 31 #[.pointer (some ⟨t, 0, none⟩), .func (.func F) #[] #[.pointer (some ⟨b, 0, none⟩), .pointer (some ⟨c, 0, none⟩)]] w fun e w' => ∃ v, e = .returned v ∧ w'.ownsRow w.heap.size 3 1 v (those G f).length ((those G f).map iv) ∧ Below w.heap.size w w' := by
  have HF : Hid (∀ (x : Int) W, lv G x = true → Below w.heap.size w W → Calls Try.prog F #[.int .i64 x, .pointer (some ⟨b, 0, none⟩), .pointer (some ⟨c, 0, none⟩)] W fun e w' => e = .returned (.bool (f x)) ∧ Below W.heap.size W w') := hf
  have HL : Hid (∀ (x : Int) W, TreeIs B W t G → Calls Try.prog 16 #[.pointer (some ⟨t, 0, none⟩), .int .i64 x] W fun e w' => e = .returned (.bool (lv G x)) ∧ w' = W) := fun x W h => plive B t G x W h
  obtain ⟨g, cap, hc, -, -, -⟩ := hT.open
  have hle := hT.ok.le
  clear hf
  rcases hF with rfl | rfl
  all_goals
    go_enter Try.func31, Try.ntmps31
    go_wp2
    go_loopw [5, 12] (fun s5 s12 wr => ∃ (j : Nat), j ≤ G.length ∧ s12 = .int .i64 j ∧ wr.ownsRow w.heap.size 3 1 s5 (thJ G f j).length ((thJ G f j).map iv) ∧ Below w.heap.size w wr) (fun _ s12 _ => G.length - (intOf s12).toNat)
    case atStart => exact ⟨0, by omega, rfl, World.ownsRow_nil _ _ _ _, Below.refl _ _⟩
    case round =>
      obtain ⟨j, hj, rfl, hrow, hb⟩ := hrel
      have hTr := hT.below hb
      have hlen := thJ_len G f j
      by_cases hjl : j < G.length
      · cases hl : lv G j with
        | false =>
          have HJ : Hid (thJ G f (j + 1) = thJ G f j) := thJ_no (by rw [hl]; rfl)
          have HL2 := HL.out j wr hTr
          rw [hl] at HL2
          have HL3 : Hid (Calls Try.prog 16 #[.pointer (some ⟨t, 0, none⟩), .int .i64 j] wr fun e w' => e = .returned (.bool false) ∧ w' = wr) := HL2
          clear HL2 hl HL HF hT hc hTr
          go_wp2_with fail
          refine HL3.out.mono ?_
          rintro e w2 ⟨rfl, rfl⟩
          go_wp2_with fail
          exact ⟨⟨j + 1, by omega, by go_num, by rw [HJ.out]; exact hrow, hb⟩, by simp [intOf]; omega⟩
        | true =>
          have HL2 := HL.out j wr hTr
          rw [hl] at HL2
          have HL3 : Hid (Calls Try.prog 16 #[.pointer (some ⟨t, 0, none⟩), .int .i64 j] wr fun e w' => e = .returned (.bool true) ∧ w' = wr) := HL2
          have HF2 := HF.out j wr hl hb
          cases hq : f j with
          | false =>
            have HJ : Hid (thJ G f (j + 1) = thJ G f j) := thJ_no (by rw [hl, hq]; rfl)
            rw [hq] at HF2
            have HF3 : Hid (Calls Try.prog _ #[.int .i64 (j : Int), .pointer (some ⟨b, 0, none⟩), .pointer (some ⟨c, 0, none⟩)] wr fun e w' => e = .returned (.bool false) ∧ Below wr.heap.size wr w') := HF2
            clear HL2 hl hq HL HF HF2 hT hc hTr
            go_wp2_with fail
            refine HL3.out.mono ?_
            rintro e w2 ⟨rfl, rfl⟩
            go_wp2_with fail
            refine HF3.out.mono ?_
            rintro e w3 ⟨rfl, hb3⟩
            go_wp2_with fail
            exact ⟨⟨j + 1, by omega, by go_num, by rw [HJ.out]; exact own_below hrow hb3, bel_trans hb hb3 (Nat.le_refl _)⟩, by simp [intOf]; omega⟩
          | true =>
            have HJ : Hid (thJ G f (j + 1) = thJ G f j ++ [(j : Int)]) := thJ_yes hl hq
            rw [hq] at HF2
            have HF3 : Hid (Calls Try.prog _ #[.int .i64 (j : Int), .pointer (some ⟨b, 0, none⟩), .pointer (some ⟨c, 0, none⟩)] wr fun e w' => e = .returned (.bool true) ∧ Below wr.heap.size wr w') := HF2
            clear HL2 hl hq HL HF HF2 hT hc hTr
            go_wp2_with fail
            refine HL3.out.mono ?_
            rintro e w2 ⟨rfl, rfl⟩
            go_wp2_with fail
            refine HF3.out.mono ?_
            rintro e w3 ⟨rfl, hb3⟩
            have hrow3 := own_below hrow hb3
            have hB3 := bel_trans hb hb3 (Nat.le_refl _)
            clear hrow hb hb3
            go_wp2_with (at_builtin; refine app_int w _ rfl _ _ rfl _ _ rfl hrow3 _ rfl (by omega) hB3 ?_; intro v' w5 hown' hb5)
            exact ⟨⟨j + 1, by omega, by go_num, by rw [HJ.out]; exact hown', hb5⟩, by simp [intOf]; omega⟩
      · obtain rfl : j = G.length := by omega
        rw [thJ_all] at hrow
        clear hT hc hTr HF HL
        go_wp2
        go_ret
        exact ⟨_, rfl, hrow, hb⟩
end Go.Proofs.Ytbceadnhfihlfaa
