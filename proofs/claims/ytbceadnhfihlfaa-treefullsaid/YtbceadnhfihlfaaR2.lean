/-
  The document's Chain, Depth; whether one is among others; rows compared.
-/
import Derived.Test.YtbceadnhfihlfaaR1
namespace Go.Proofs.Ytbceadnhfihlfaa
open Go.RowKit

/-- A slice of ints as a list. -/
def Ints (w : World) (a : Option Addr) (l : List Int) : Prop := ∀ i (h : i < l.length), ∃ b off, a = some ⟨b, off, none⟩ ∧ w.cell? ⟨b, off + i, none⟩ = some (.int .i64 l[i])
theorem Ints.later {w w' : World} {a : Option Addr} {l : List Int} (h : Ints w a l) (hb : Below w.heap.size w w') : Ints w' a l := fun i hi => by
  obtain ⟨b, off, h1, h2⟩ := h i hi
  exact ⟨b, off, h1, cell_later hb h2⟩
theorem ints_own {w : World} {B : Nat} {v : Value} {l : List Int} (h : w.ownsRow B 3 1 v l.length (l.map iv)) : ∃ a cap, v = .slice a l.length cap ∧ Ints w a l := by
  obtain ⟨a, cap, rfl, h2⟩ := own_form h
  refine ⟨a, cap, rfl, fun i hi => ?_⟩
  obtain ⟨g, rfl, h3⟩ := h2 (by omega)
  refine ⟨g, 0, rfl, ?_⟩
  rw [Nat.zero_add, h3 i (by omega)]
  simp [iv, hi]

set_option maxHeartbeats 1000000 in
theorem rchain (B t : Nat) (G : Gr) (x : Int) (w : World) (h : RefIs B w t G) :
    Calls Try.prog 24 #[.pointer (some ⟨t, 0, none⟩), .int .i64 x] w fun e w' => ∃ v, e = .returned v ∧ w'.ownsRow w.heap.size 3 1 v (chain G x).length ((chain G x).map iv) ∧ Below w.heap.size w w' := by
  have HL : Hid (Calls Try.prog 17 #[.pointer (some ⟨t, 0, none⟩), .int .i64 x] w fun e w' => e = .returned (.bool (lv G x)) ∧ w' = w) := rlive B t G x w h
  have hok := h.ok
  cases hl : lv G x with
  | false =>
    have HP : Hid (chain G x = []) := chain_dead hl
    rw [hl] at HL
    clear hl h
    go_enter Try.func24, Try.ntmps24
    go_wp2_with fail
    refine HL.out.mono ?_
    rintro e w1 ⟨rfl, rfl⟩
    go_wp2_with fail
    go_ret
    exact ⟨_, rfl, by rw [HP.out]; exact World.ownsRow_nil _ _ _ _, Below.refl _ _⟩
  | true =>
    rw [hl] at HL
    go_enter Try.func24, Try.ntmps24
    go_wp2_with fail
    refine HL.out.mono ?_
    rintro e w1 ⟨rfl, rfl⟩
    go_wp2_with fail
    go_loopw [1, 5] (fun s1 s5 wr => ∃ (pre : List Int) (y : Int), s1 = .int .i64 y ∧ (y = -1 ∨ lv G y = true) ∧ chain G x = pre ++ chain G y ∧ wr.ownsRow w1.heap.size 3 1 s5 pre.length (pre.map iv) ∧ Below w1.heap.size w1 wr) (fun s1 _ _ => (intOf s1 + 1).toNat)
    case atStart => exact ⟨[], x, rfl, .inr hl, rfl, World.ownsRow_nil _ _ _ _, Below.refl _ _⟩
    case round =>
      obtain ⟨pre, y, rfl, hy, hx, hrow, hb⟩ := hrel
      rcases hy with rfl | hy
      · have hm : lv G (-1) = false := lv_neg (by omega)
        rw [chain_dead hm, List.append_nil] at hx
        have HX : Hid (chain G x = pre) := hx
        clear hx hl h HL
        have hd : decide (0 ≤ (-1 : Int)) = false := rfl
        go_wp2
        go_ret
        exact ⟨_, rfl, by rw [HX.out]; exact hrow, hb⟩
      · obtain ⟨gu, cu, gh, ch, U, hlen, hc0, hc1, hh, hu, hsame⟩ := h.open
        have hyl := lv_lo hy
        have hlt : pre.length < 8 := by
          have h1 := chain_len hok x
          have h2 := chain_pos hok hy
          rw [hx, List.length_append] at h1
          omega
        rw [chain_live hok hy] at hx
        have HN : Hid (pr G y = -1 ∨ lv G (pr G y) = true) := by
          by_cases h0 : y = 0
          · subst h0; exact .inl hok.root
          · exact .inr (hok.up y hy h0).2.2
        have HM : Hid ((pr G y + 1).toNat < (y + 1).toNat) := by
          show _ < _
          by_cases h0 : y = 0
          · subst h0; rw [hok.root]; omega
          · have := hok.up y hy h0; omega
        obtain ⟨k, rfl⟩ := Int.eq_ofNat_of_zero_le hyl.1
        have h1 : k < G.length := by omega
        have h2 : k < U.length := by omega
        have hk := hu k h2
        have hG : G[k].2 = true := by rw [← lv_nat h1, hy]
        obtain ⟨q, hq⟩ : ∃ q, q = U[k] := ⟨_, rfl⟩
        have hqp : q = pr G k := by rw [hq, hsame k h1 h2 hG, pr_nat h1]
        rw [← hq] at hk
        rw [← hqp] at HN HM hx
        have HX : Hid (chain G x = (pre ++ [(k : Int)]) ++ chain G q) := by show _ = _; rw [hx]; simp
        have hd : decide (0 ≤ (k : Int)) = true := by simp
        clear hx hq hqp hh hu hsame hc1 hl hG HL h hyl hy
        go_wp2_with (at_builtin; refine app_int w1 _ rfl _ _ rfl _ _ rfl hrow _ rfl (by omega) hb ?_; intro v' w5 hown' hb5; have k5 := cell_later hb5 hc0; have k6 := cell_later hb5 hk)
        refine ⟨⟨_, q, rfl, HN.out, HX.out, hown', hb5⟩, ?_⟩
        simp only [intOf]
        exact HM.out

set_option maxHeartbeats 1000000 in
theorem rdepth (B t : Nat) (G : Gr) (x : Int) (w : World) (h : RefIs B w t G) :
    Calls Try.prog 21 #[.pointer (some ⟨t, 0, none⟩), .int .i64 x] w fun e w' => e = .returned (.int .i64 (dep G x)) ∧ Below w.heap.size w w' := by
  have HC : Hid (Calls Try.prog 24 #[.pointer (some ⟨t, 0, none⟩), .int .i64 x] w fun e w' => ∃ v, e = .returned v ∧ w'.ownsRow w.heap.size 3 1 v (chain G x).length ((chain G x).map iv) ∧ Below w.heap.size w w') := rchain B t G x w h
  have hlen := chain_len h.ok x
  have HD : Hid (dep G x = ((chain G x).length : Int) - 1) := rfl
  obtain ⟨n, hn⟩ : ∃ n, n = (chain G x).length := ⟨_, rfl⟩
  rw [← hn] at HC HD hlen
  clear hn h
  go_enter Try.func21, Try.ntmps21
  go_wp2_with fail
  refine HC.out.mono ?_
  rintro e w1 ⟨v, rfl, h1, h2⟩
  obtain ⟨a, cap, rfl, -⟩ := own_form h1
  go_wp2_with fail
  go_ret
  exact ⟨by rw [HD.out]; rfl, h2⟩

set_option maxHeartbeats 1000000 in
theorem rin (a : Option Addr) (cap : Nat) (l : List Int) (n : Int) (w : World) (h : Ints w a l) (hl : l.length ≤ 1000000) :
    Calls Try.prog 29 #[.slice a l.length cap, .int .i64 n] w fun e w' => e = .returned (.bool (decide (n ∈ l))) ∧ w' = w := by
  go_enter Try.func29, Try.ntmps29
  go_wp2_with fail
  go_loopw [5] (fun s5 wr => ∃ i : Nat, i ≤ l.length ∧ s5 = .int .i64 i ∧ n ∉ l.take i ∧ wr = w) (fun s5 _ => l.length - (intOf s5).toNat)
  case atStart => exact ⟨0, by omega, rfl, by simp, rfl⟩
  case round =>
    obtain ⟨i, hi, rfl, hn, rfl⟩ := hrel
    by_cases hil : i < l.length
    · obtain ⟨b, off, rfl, hc⟩ := h i hil
      have hd : decide ((i : Int) < (l.length : Int)) = true := by simp; omega
      obtain ⟨q, hq⟩ : ∃ q, q = l[i] := ⟨_, rfl⟩
      rw [← hq] at hc
      by_cases hqn : q = n
      · have HR : Hid (n ∈ l) := by show _ ∈ _; rw [← hqn, hq]; exact List.getElem_mem _
        have q1 : (q == n) = true := by simpa using hqn
        clear hq h hn hqn
        go_wp2_with fail
        go_ret
        exact ⟨by simp [HR.out], rfl⟩
      · have HR : Hid (n ∉ l.take (i + 1)) := by
          show ¬ _
          rw [List.take_succ_eq_append_getElem hil]
          simp only [List.mem_append, List.mem_singleton, not_or]
          exact ⟨hn, by rw [← hq]; exact fun e => hqn e.symm⟩
        have q1 : (q == n) = false := by simpa using hqn
        clear hq h hn hqn
        go_wp2_with fail
        exact ⟨⟨i + 1, by omega, by go_num, HR.out, trivial⟩, by simp [intOf]; omega⟩
    · have hd : decide ((i : Int) < (l.length : Int)) = false := by simp; omega
      have HR : Hid (n ∉ l) := by
        show ¬ _
        rw [List.take_of_length_le (by omega)] at hn
        exact hn
      clear hn h
      go_wp2_with fail
      go_ret
      exact ⟨by simp [HR.out], rfl⟩

set_option maxHeartbeats 1000000 in
theorem rrow (a a' : Option Addr) (cap cap' : Nat) (l l' : List Int) (w : World) (h : Ints w a l) (h' : Ints w a' l') (hl : l.length ≤ 1000000) :
    Calls Try.prog 22 #[.slice a l.length cap, .slice a' l'.length cap'] w fun e w' => e = .returned (.bool (decide (l = l'))) ∧ Below w.heap.size w w' := by
  by_cases hll : l.length = l'.length
  · have qn : ((l.length : Int) != (l'.length : Int)) = false := by simp; omega
    go_enter Try.func22, Try.ntmps22
    go_wp2_with fail
    go_loopw [5] (fun s5 wr => ∃ (i d : Nat), i ≤ l.length ∧ s5 = .int .i64 i ∧ l.take i = l'.take i ∧ wr = w.drewN d) (fun s5 _ => l.length - (intOf s5).toNat)
    case atStart => exact ⟨0, 0, by omega, rfl, by simp, rfl⟩
    case round =>
      obtain ⟨i, d, hi, rfl, hn, rfl⟩ := hrel
      by_cases hil : i < l.length
      · obtain ⟨b, off, rfl, hc⟩ := h i hil
        obtain ⟨b', off', rfl, hc'⟩ := h' i (by omega)
        have hd : decide ((i : Int) < (l.length : Int)) = true := by simp; omega
        obtain ⟨q, hq⟩ : ∃ q, q = l[i] := ⟨_, rfl⟩
        obtain ⟨q', hq'⟩ : ∃ q', q' = l'[i] := ⟨_, rfl⟩
        rw [← hq] at hc
        rw [← hq'] at hc'
        have hil' : i < l'.length := by omega
        by_cases hqn : q = q'
        · have HR : Hid (l.take (i + 1) = l'.take (i + 1)) := by
            show _ = _
            rw [List.take_succ_eq_append_getElem hil, List.take_succ_eq_append_getElem hil', hn, ← hq, ← hq', hqn]
          subst hqn
          have q1 : (q != q) = false := by simp
          clear hq hq' h h' hn
          go_wp2_with fail
          go_quiet (fail)
          go_wp2_with fail
          exact ⟨⟨i + 1, d + nq, by omega, by go_num, HR.out, by simp⟩, by simp [intOf]; omega⟩
        · have HR : Hid (l ≠ l') := by
            show ¬ _
            intro e
            subst e
            exact hqn (hq.trans hq'.symm)
          have q1 : (q != q') = true := by simpa using hqn
          clear hq hq' h h' hn
          go_wp2_with fail
          go_quiet (fail)
          go_wp2_with fail
          go_ret
          exact ⟨by simp [HR.out], below_drawn (below_drawn (Below.refl _ _) _) _⟩
      · have hd : decide ((i : Int) < (l.length : Int)) = false := by simp; omega
        have HR : Hid (l = l') := by
          show _ = _
          rw [List.take_of_length_le (by omega), List.take_of_length_le (by omega)] at hn
          exact hn
        clear hn h h'
        go_wp2_with fail
        go_ret
        exact ⟨by simp [HR.out], below_drawn (Below.refl _ _) _⟩
  · have qn : ((l.length : Int) != (l'.length : Int)) = true := by simp; omega
    have HR : Hid (l ≠ l') := fun e => hll (by rw [e])
    clear h h' hll
    go_enter Try.func22, Try.ntmps22
    go_wp2_with fail
    go_ret
    exact ⟨by simp [HR.out], Below.refl _ _⟩
end Go.Proofs.Ytbceadnhfihlfaa
