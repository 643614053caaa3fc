/-
  The iterator pages: for every loop body that goes on.
-/
import Derived.RangeFuncNested
import Derived.RangeFuncBound
import Derived.RangeFuncCalls
import Derived.RangeFuncLeaves
import Derived.Shelf.Abstract
import Derived.Shelf.RegionOpen
import Derived.WalkKit
import Derived.OwnWalkIn
import Derived.TacticsInMore
import Derived.LoopNIn
import Derived.LoopIn
import Derived.Test.YtaecacbapeogdaaP6
namespace Go.Proofs.Ytaecacbapeogdaa
open Go.RowKit Go.Shelf
attribute [local go_sem] Oper.semAt_some

/-! ### what has come -/
theorem IsWalk.start (T : Tab) (a b : Int) : IsWalk T a (min a b) [] := ⟨List.Pairwise.nil, fun p => by simp; intro _ h; omega⟩
theorem IsWalk.pass {T : Tab} {a b : Int} {l : List Nat} {p r : Nat} (h : IsWalk T a (min p b) l) (hpr : p ≤ r) (hn : ∀ q, p ≤ q → q < r → T q = none) : IsWalk T a (min r b) l := by
  refine ⟨h.up, fun q => ?_⟩
  rw [h.mem]
  constructor
  · rintro ⟨h1, h2, h3⟩
    exact ⟨h1, h2, by omega⟩
  · rintro ⟨h1, h2, h3⟩
    refine ⟨h1, h2, ?_⟩
    by_cases hq : p ≤ q
    · exact absurd (hn q hq (by omega)) h1
    · omega
theorem IsWalk.meet {T : Tab} {a b : Int} {l : List Nat} {p : Nat} (h : IsWalk T a (min p b) l) (ha : a ≤ p) (hb : (p : Int) < b) (hn : T p ≠ none) : IsWalk T a (min ((p + 1 : Nat) : Int) b) (l ++ [p]) := by
  refine ⟨List.pairwise_append.2 ⟨h.up, by simp, fun x hx y hy => ?_⟩, fun q => ?_⟩
  · have := ((h.mem x).1 hx).2.2
    have : y = p := by simpa using hy
    omega
  · rw [List.mem_append, h.mem]
    simp only [List.mem_singleton]
    constructor
    · rintro (⟨h1, h2, h3⟩ | rfl)
      · exact ⟨h1, h2, by omega⟩
      · exact ⟨hn, ha, by omega⟩
    · rintro ⟨h1, h2, h3⟩
      by_cases hq : q = p
      · exact .inr hq
      · exact .inl ⟨h1, h2, by omega⟩
theorem Heap.gap {w : World} {t : Nat} {N : Nds} {T : Tab} {n m : Int} (h : Heap w t N T n m) {p k q : Nat} (hk : k ≤ 2) (hn : N (k + 1) (pg p (k + 1)) = none) (hq : pg q (k + 1) = pg p (k + 1)) : T q = none := by
  cases hT : T q with
  | none => rfl
  | some x =>
    have := h.upto (p := q) (k := k + 1) (by rw [hT]; simp) (by omega)
    rw [hq] at this
    exact absurd hn this

/-- A span's box stays as it is. -/
def Kp62 (A B : World) : Prop := ∀ (k : Nat) (cs : Array Value), A.heap[k]? = some (Obj.cells cs 62 (0, 0)) → B.heap[k]? = some (Obj.cells cs 62 (0, 0))
theorem RowAt.kp {A B : World} {b : Nat} {vs : List Value} (h : RowAt A b 62 vs) (hk : Kp62 A B) : RowAt B b 62 vs := hk b _ h

set_option maxRecDepth 100000 in
set_option maxHeartbeats 2000000 in
theorem pages_in (t : Nat) (N : Nds) (T : Tab) (n m a b : Int) (ha : 0 ≤ a) (hb : b ≤ 65536) (l : Nat) (J : List Nat → World → Prop)
    (hJa : ∀ s A o, J s A → J s (A.alloc o)) (hJd : ∀ s A d, J s A → J s (A.drewN d)) (hJH : ∀ s A, J s A → Heap A t N T n m)
    (hY : ∀ pre (x : Nat) W (c : Int), J pre W → IsWalk T a c pre → YieldAt Fence.wide 2 Try.prog l #[.int .i64 x] W fun e W' => e = .returned (.bool true) ∧ J (pre ++ [x]) W' ∧ Kp62 W W')
    (W : World) (h0 : J [] W) :
    CallsIn Fence.wide 3 Try.prog 32 #[.agg #[.pointer (some ⟨t, 0, none⟩), .int .i64 a, .int .i64 b], .func (.yield l) #[] #[]] W fun e W' => (∃ v, e = .returned v) ∧ ∃ xs, IsWalk T a b xs ∧ J xs W' := by
  obtain ⟨p0, rfl⟩ := Int.eq_ofNat_of_zero_le ha
  refine callsIn_of_wp Try.func32 rfl trivial ?_ rfl
  simp only [Try.ntmps32, List.size_toArray, List.length_cons, List.length_nil, Nat.reduceAdd, Nat.reduceSub, Array.replicate_succ, Array.replicate_zero, List.push_toArray, List.append_toArray, List.nil_append, List.cons_append]
  gi_wp2
  gi_loopw [4] (fun s4 wr => ∃ (p : Nat) (pre : List Nat), s4 = .int .i64 p ∧ p0 ≤ p ∧ IsWalk T p0 (min p b) pre ∧ J pre wr ∧ RowAt wr W.heap.size 62 [.pointer (some ⟨t, 0, none⟩), .int .i64 p0, .int .i64 b]) (fun s4 _ => (b - intOf s4).toNat)
  case atStart => exact ⟨p0, [], rfl, Nat.le_refl _, IsWalk.start _ _ _, hJa _ _ _ h0, RowAt.new W _ 62⟩
  case round =>
    obtain ⟨p, pre, rfl, hp0, hw, hJ, hbox⟩ := hrel
    have k0 : wr.cell? ⟨W.heap.size, 0, none⟩ = some (.pointer (some ⟨t, 0, none⟩)) := by rw [hbox.cell]; rfl
    have k2 : wr.cell? ⟨W.heap.size, 2, none⟩ = some (.int .i64 b) := by rw [hbox.cell]; rfl
    by_cases hlt : (p : Int) < b
    · have hp : p < 65536 := by omega
      have hh := hJH _ _ hJ
      gi_wp2_with fail
      refine ⟨trivial, ?_⟩
      gi_at_call 31
      refine (callsIn_wide.2 (pfind t N T n m p hp _ hh)).mono ?_
      rintro e w2 ⟨k, c, sh, d, rfl, hk, hsh, hc, hn, rfl⟩
      have hl := dg_lt p k
      have hc2 := hh.cell hc hl (j := 2) (by omega)
      rw [← pg_step p hk, hn, hh.ends hk hn] at hc2
      have hJ2 := hJd pre wr d hJ
      have hbox2 := hbox.drewN d
      cases hT : T p with
      | none =>
        rw [hT] at hc2
        have c2 : wr.cell? ⟨c, dg p k * 3 + 2, none⟩ = some (.bool false) := hc2
        have hk' : k = 0 ∧ sh = 12 ∨ k = 1 ∧ sh = 8 ∨ k = 2 ∧ sh = 4 ∨ k = 3 ∧ sh = 0 := by omega
        have HG : Hid (∀ q, pg q (k + 1) = pg p (k + 1) → k ≤ 2 → T q = none) := fun q hq hk2 => hh.gap hk2 hn hq
        have HT : Hid (T p = none) := hT
        clear hc2 hn hc hh hJ hbox k0 k2 hT
        rcases hk' with ⟨rfl, rfl⟩ | ⟨rfl, rfl⟩ | ⟨rfl, rfl⟩ | ⟨rfl, rfl⟩
        · have HP : Hid (IsWalk T p0 (min (((p / 4096 + 1) * 4096 : Nat) : Int) b) pre) := hw.pass (by omega) (fun q h1 h2 => HG.out q (by rw [pg_one, pg_one]; omega) (by omega))
          clear HG HT hw hk
          gi_wp2
          refine ⟨fun _ h => (by cases h), ?_⟩
          gi_wp2
          exact ⟨⟨(p / 4096 + 1) * 4096, pre, by congr 1, by omega, HP.out, hJ2, hbox2⟩, by simp [intOf]; omega⟩
        · have HP : Hid (IsWalk T p0 (min (((p / 256 + 1) * 256 : Nat) : Int) b) pre) := hw.pass (by omega) (fun q h1 h2 => HG.out q (by rw [pg_two, pg_two]; omega) (by omega))
          clear HG HT hw hk
          gi_wp2
          refine ⟨fun _ h => (by cases h), ?_⟩
          gi_wp2
          exact ⟨⟨(p / 256 + 1) * 256, pre, by congr 1, by omega, HP.out, hJ2, hbox2⟩, by simp [intOf]; omega⟩
        · have HP : Hid (IsWalk T p0 (min (((p / 16 + 1) * 16 : Nat) : Int) b) pre) := hw.pass (by omega) (fun q h1 h2 => HG.out q (by rw [pg_three, pg_three]; omega) (by omega))
          clear HG HT hw hk
          gi_wp2
          refine ⟨fun _ h => (by cases h), ?_⟩
          gi_wp2
          exact ⟨⟨(p / 16 + 1) * 16, pre, by congr 1, by omega, HP.out, hJ2, hbox2⟩, by simp [intOf]; omega⟩
        · have HP : Hid (IsWalk T p0 (min ((p + 1 : Nat) : Int) b) pre) := hw.pass (by omega) (fun q h1 h2 => by rw [show q = p by omega]; exact HT.out)
          clear HG HT hw hk
          gi_wp2
          refine ⟨fun _ h => (by cases h), ?_⟩
          gi_wp2
          exact ⟨⟨p + 1, pre, by congr 1, by omega, HP.out, hJ2, hbox2⟩, by simp [intOf]; omega⟩
      | some x =>
        rw [hT] at hc2
        have hk3 : k = 3 := by
          by_cases h3 : k = 3
          · exact h3
          · have := hh.gap (q := p) (by omega) hn rfl
            rw [hT] at this
            cases this
        subst hk3
        obtain rfl : sh = 0 := by omega
        have c2 : wr.cell? ⟨c, dg p 3 * 3 + 2, none⟩ = some (.bool true) := hc2
        have HP : Hid (IsWalk T p0 (min ((p + 1 : Nat) : Int) b) (pre ++ [p])) := hw.meet (by omega) hlt (by rw [hT]; simp)
        obtain ⟨fn, tmps, assign, body, hy, hR⟩ := hY pre p (wr.drewN d) _ hJ2 hw
        clear hc2 hn hc hh hJ hbox k0 k2 hT hw
        gi_wp2
        refine hR.mono ?_
        rintro e W3 ⟨rfl, hJ3, hk3⟩
        have hbox3 := hbox2.kp hk3
        gi_wp2
        exact ⟨⟨p + 1, pre ++ [p], by congr 1, by omega, HP.out, hJ3, hbox3⟩, by simp [intOf]; omega⟩
    · have HW : Hid (IsWalk T p0 b pre) := by
        have := hw
        rw [show min (p : Int) b = b by omega] at this
        exact this
      clear hw
      gi_wp2
      go_end0
      exact ⟨⟨_, rfl⟩, pre, HW.out, hJ⟩
end Go.Proofs.Ytaecacbapeogdaa
