/-
  A slice of ints as it lies in memory; two compared; the contract of the document's Those.
-/
import Derived.Test.YtponlldgnlckfaaR5
import Derived.Maps.AppendAt
namespace Go.Proofs.Ytponlldgnlckfaa
open Go.RowKit

def iv (x : Int) : Value := .int .i64 x
structure Ints (w : World) (a : Option Addr) (N : List Int) : Prop where
  at' : ∀ j, j < N.length → ∃ b off, a = some ⟨b, off, none⟩ ∧ w.cell? ⟨b, off + j, none⟩ = some (.int .i64 (N.getD j 0))
  wf : ∀ x ∈ N, (Lit.int .i64 x).wf = true
theorem Ints.later {w w' : World} {a : Option Addr} {N : List Int} (h : Ints w a N) (hb : Below w.heap.size w w') : Ints w' a N := by
  refine ⟨fun j hj => ?_, h.wf⟩
  obtain ⟨b, off, rfl, h1⟩ := h.at' j hj
  exact ⟨b, off, rfl, cell_later hb h1⟩
theorem Ints.get {w : World} {a : Option Addr} {N : List Int} (h : Ints w a N) {j : Nat} (hj : j < N.length) : ∃ b off, a = some ⟨b, off, none⟩ ∧ w.cell? ⟨b, off + j, none⟩ = some (.int .i64 N[j]) ∧ (Lit.int .i64 N[j]).wf = true := by
  obtain ⟨b, off, h1, h2⟩ := h.at' j hj
  refine ⟨b, off, h1, ?_, h.wf _ (List.getElem_mem hj)⟩
  rw [h2]
  simp [hj]
theorem Ints.one {w : World} {b : Nat} {x : Int} (h : RowAt w b 3 [.int .i64 x]) (hw : (Lit.int .i64 x).wf = true) : Ints w (some ⟨b, 0, none⟩) [x] := by
  refine ⟨fun j hj => ⟨b, 0, rfl, ?_⟩, fun y hy => by simp at hy; rw [hy]; exact hw⟩
  have : j = 0 := by simpa using hj
  subst this
  rw [h.cell]; rfl

theorem info3 : (Try.prog.info? 3).map (fun i => (i.zero, i.size, i.bytes)) = some (some (.int .i64 0), 1, 8) := by kernel_rfl
/-- One int more of one's own. -/
theorem app_int {ops : Array Oper} {rest : List Oper} {o : Oper} {a : Act} {Q : Exit → Act → World → Prop} (B : Nat) (L : List Int) (wr : World) (hgd : o.guard = none) (s x : Operand)
    (ho : o.op = .call { callee := .builtin .append, args := #[s, x], argTypes := #[51, 51] }) (v : Value) (hs : a.eval s = v) (hown : wr.ownsRow B 3 1 v L.length (L.map iv))
    (p : Int) (n : Nat) (hn : n = wr.heap.size) (hx : a.eval x = .slice (some ⟨n, 0, none⟩) 1 1) (hl : L.length ≤ 1000000) (hb : B ≤ wr.heap.size)
    (hK : ∀ v' w3, w3.ownsRow B 3 1 v' (L ++ [p]).length ((L ++ [p]).map iv) → Below B wr w3 → wpList Try.prog ops Q rest (a.put o.dst v') w3) :
    wpList Try.prog ops Q (o :: rest) a (wr.alloc (.cells #[.int .i64 p] 3)) := by
  subst hn
  obtain ⟨i0, hi, hz0, hz1, hz2⟩ := info_parts info3
  refine wpList_append_own _ hgd s x 51 ho B 3 i0 _ 1 8 Try.underlying51 hi hz0 hz1 hz2 rfl (by decide) v _ _ hs (hown.alloc _) ⟨wr.heap.size, 0, none⟩ 1 1 [.int .i64 p] hx rfl (cell_one_new _ _ _) (by simp [Value.oneCell']) (by unfold maxLen; omega) (by omega) (by simp; omega) ?_
  intro v' w' hown' hgrow _
  refine hK v' w' (by simpa [iv] using hown') ?_
  exact ((below_alloc wr _).mono hb).grown hgrow (by simp; omega) fun j ej => (hown.lt j ej).1

set_option maxHeartbeats 1000000 in
theorem rowT (a b : Option Addr) (c d : Nat) (N : List Int) (w : World) (hI : Ints w a N) (hJ : Ints w b N) (hl : N.length < 10000000) :
    Calls Try.prog 25 #[.slice a N.length c, .slice b N.length d] w fun e w' => e = .returned (.bool true) ∧ ∃ n, w' = w.drewN n := by
  have HI : Hid (Ints w a N) := hI
  have HJ : Hid (Ints w b N) := hJ
  have z0 : ((N.length : Int) != (N.length : Int)) = false := by simp
  clear hI hJ
  go_enter Try.func25, Try.ntmps25
  go_wp2_with fail
  go_loopw [5] (fun s5 wr => ∃ k : Nat, k ≤ N.length ∧ s5 = .int .i64 k ∧ ∃ n, wr = w.drewN n) (fun s5 _ => N.length - (intOf s5).toNat)
  case atStart => exact ⟨0, by omega, rfl, 0, rfl⟩
  case round =>
    obtain ⟨k, hk, rfl, n, rfl⟩ := hrel
    by_cases hkl : k < N.length
    · have hd : decide ((k : Int) < (N.length : Int)) = true := by simp; omega
      obtain ⟨b1, o1, rfl, k1, -⟩ := HI.out.get hkl
      obtain ⟨b2, o2, rfl, k2, -⟩ := HJ.out.get hkl
      obtain ⟨x, hx⟩ : ∃ x, x = N[k] := ⟨_, rfl⟩
      rw [← hx] at k1 k2
      have z1 : (x != x) = false := by simp
      clear hx
      go_wp2_with fail
      go_quiet (fail)
      go_wp2
      exact ⟨⟨k + 1, by omega, by go_num, _, rfl⟩, by simp [intOf]; omega⟩
    · obtain rfl : k = N.length := by omega
      have hd : decide ((N.length : Int) < (N.length : Int)) = false := by simp
      go_wp2
      go_ret
      exact ⟨rfl, _, rfl⟩


/-- A row of one's own, read. -/
theorem ints_own {w : World} {B : Nat} {v : Value} {l : List Int} (h : w.ownsRow B 3 1 v l.length (l.map iv)) (hw : ∀ x ∈ l, (Lit.int .i64 x).wf = true) : ∃ a cap, v = .slice a l.length cap ∧ Ints w a l := by
  obtain ⟨a, cap, rfl, h2⟩ := own_form h
  refine ⟨a, cap, rfl, fun i hi => ?_, hw⟩
  obtain ⟨g, rfl, h3⟩ := h2 (by omega)
  refine ⟨g, 0, rfl, ?_⟩
  rw [Nat.zero_add, h3 i (by omega)]
  simp [iv, hi]
def anyP (b : Bool) (o : Int) (q : Pg) : Bool := b || q.ow == o
set_option maxRecDepth 100000 in
set_option maxHeartbeats 4000000 in
theorem rthose (B r : Nat) (L : List Pg) (o : Int) (b : Bool) (w : World) (h : RefIs B w r L) (hL : L.length < 1000000) :
    Calls Try.prog 27 #[.pointer (some ⟨r, 0, none⟩), .int .i64 o, .bool b] w fun e w' => ∃ a cap, e = .returned (.slice a (idsL L (anyP b o)).length cap) ∧ Ints w' a (idsL L (anyP b o)) ∧ Below w.heap.size w w' := by
  have H0 := hid h
  clear h
  go_enter Try.func27, Try.ntmps27
  go_wp2_with fail
  go_loopw [7, 8] (fun s7 s8 wr => ∃ k : Nat, k ≤ L.length ∧ s8 = .int .i64 k ∧ wr.ownsRow w.heap.size 3 1 s7 (idsN L (anyP b o) k).length ((idsN L (anyP b o) k).map iv) ∧ Below w.heap.size w wr) (fun _ s8 _ => L.length - (intOf s8).toNat)
  case atStart => exact ⟨0, by omega, rfl, World.ownsRow_nil _ _ _ _, Below.refl _ _⟩
  case round =>
    obtain ⟨k, hk, rfl, hown, hb⟩ := hrel
    have hr := H0.out.below hb
    obtain ⟨a, cap, hop⟩ := hr.op
    have hc : wr.cell? ⟨r, 0, none⟩ = some (.slice a L.length cap) := by rw [hop.row.cell]; rfl
    have HB := hid hb
    have HOWN := hid hown
    by_cases hkl : k < L.length
    · have hd : decide ((k : Int) < (L.length : Int)) = true := by simp; omega
      obtain ⟨g, cap2, hA⟩ := hr.at hkl
      have hc2 := hA.head
      rw [hc] at hc2
      obtain ⟨rfl, -, rfl⟩ : a = some ⟨g, 0, none⟩ ∧ True ∧ cap = cap2 := by
        injection hc2 with h1
        injection h1 with h2 h3 h4
        exact ⟨h2, trivial, h4⟩
      have k4 := (hA.cell hkl 4 (by omega)).trans (nc2 _).2.2.2.2.1
      have HH := hid (rhas B r L k wr hr)
      have hs := idsN_succ L (anyP b o) k
      have hh : has L k = !(pg L k).gn := by unfold has; simp [hkl]
      rw [← hh] at hs
      have hlen := idsN_len L (anyP b o) k
      obtain ⟨N, hN⟩ : ∃ N, N = idsN L (anyP b o) k := ⟨_, rfl⟩
      rw [← hN] at hs HOWN hlen
      have HS : Hid (idsN L (anyP b o) (k + 1) = if (has L k && anyP b o (pg L k)) = true then N ++ [(k : Int)] else N) := hs
      have HP : Hid (anyP b o (pg L k) = (b || (pg L k).ow == o)) := rfl
      obtain ⟨t, ht⟩ : ∃ t, t = has L k := ⟨_, rfl⟩
      obtain ⟨x, hx⟩ : ∃ x, x = (pg L k).ow := ⟨_, rfl⟩
      rw [← ht] at HS HH
      rw [← hx] at HP k4
      obtain ⟨u, hu⟩ : ∃ u, u = anyP b o (pg L k) := ⟨_, rfl⟩
      rw [← hu] at HS HP
      have hws := hb.size
      clear hown hr hop hc2 hA hs hh hN ht hx hu hb
      cases t with
      | false =>
        go_wp2_with fail
        refine HH.out.mono ?_
        rintro e w2 ⟨rfl, rfl⟩
        go_wp2_with fail
        exact ⟨⟨k + 1, by omega, by go_num, by rw [HS.out]; exact HOWN.out, HB.out⟩, by simp [intOf]; omega⟩
      | true =>
        cases b with
        | true =>
          have HU : Hid (u = true) := by show _ = _; rw [HP.out]; rfl
          clear HP
          go_wp2_with fail
          refine HH.out.mono ?_
          rintro e w2 ⟨rfl, rfl⟩
          go_wp2_with (at_builtin; refine app_int w.heap.size N w2 rfl _ _ rfl u7 rfl HOWN.out (k : Int) w2.heap.size rfl rfl (by omega) hws ?_; intro v3 w3 hown3 hb3)
          exact ⟨⟨k + 1, by omega, by go_num, by rw [HS.out, HU.out]; exact hown3, HB.out.trans hb3⟩, by simp [intOf]; omega⟩
        | false =>
          cases hq : (x == o) with
          | false =>
            have HU : Hid (u = false) := by show _ = _; rw [HP.out, hq]; rfl
            clear HP
            go_wp2_with fail
            refine HH.out.mono ?_
            rintro e w2 ⟨rfl, rfl⟩
            go_wp2_with fail
            exact ⟨⟨k + 1, by omega, by go_num, by rw [HS.out, HU.out]; exact HOWN.out, HB.out⟩, by simp [intOf]; omega⟩
          | true =>
            have HU : Hid (u = true) := by show _ = _; rw [HP.out, hq]; rfl
            clear HP
            go_wp2_with fail
            refine HH.out.mono ?_
            rintro e w2 ⟨rfl, rfl⟩
            go_wp2_with (at_builtin; refine app_int w.heap.size N w2 rfl _ _ rfl u7 rfl HOWN.out (k : Int) w2.heap.size rfl rfl (by omega) hws ?_; intro v3 w3 hown3 hb3)
            exact ⟨⟨k + 1, by omega, by go_num, by rw [HS.out, HU.out]; exact hown3, HB.out.trans hb3⟩, by simp [intOf]; omega⟩
    · obtain rfl : k = L.length := by omega
      have hd : decide ((L.length : Int) < (L.length : Int)) = false := by simp
      have hw : ∀ x ∈ idsN L (anyP b o) L.length, (Lit.int .i64 x).wf = true := by
        intro x hx
        obtain ⟨m, hm, rfl, -, -⟩ := (ids_mem L _ _ _).1 hx
        exact WalkArith.wf_i64 (by omega)
      obtain ⟨a2, cap2, hv, hI⟩ := ints_own hown hw
      have HV := hid hv
      have HI := hid hI
      clear hown hr hop hw hv hI
      go_wp2_with fail
      go_ret
      exact ⟨a2, cap2, by show Ending.returned u7 = _; rw [HV.out]; rfl, HI.out, HB.out⟩
end Go.Proofs.Ytponlldgnlckfaa
