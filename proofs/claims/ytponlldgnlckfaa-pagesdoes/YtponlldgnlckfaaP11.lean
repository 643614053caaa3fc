/-
  The contracts of Those and All.
-/
import Derived.Test.YtponlldgnlckfaaP10
set_option maxRecDepth 100000
namespace Go.Proofs.Ytponlldgnlckfaa
open Go.RowKit
open Go.Sort (Holds)

theorem psort (B : Nat) (v : Value) (ss : List Int) (W : World) (hown : W.ownsRow B 3 1 v ss.length (ss.map iv)) (hl : ss.length < 1000000) (hB : B ≤ W.heap.size) :
    Calls Try.prog 38 #[v] W fun e w' => e = .returned (.tuple #[]) ∧ w'.ownsRow B 3 1 v ss.length ((ss.mergeSort fun x y => decide (x ≤ y)).map iv) ∧ Below B W w' := by
  have hown' := hown
  rcases hown.2 with ⟨rfl, hz⟩ | ⟨gb, cap, cur, rfl, hbase, hgb, r1, r2, r3, r4⟩
  · have hss : ss = [] := List.eq_nil_of_length_eq_zero hz
    subst hss
    refine (AnyM.slices_Sort_int_none Try.sortL none 0 W).mono ?_
    rintro e w' ⟨rfl, rfl⟩
    exact ⟨rfl, by simpa using hown, Below.refl _ _⟩
  · have r4' : cur.toList.take ss.length = ss.map encZ := by
      have : ss.map encZ = ss.map iv := rfl
      rw [this]; simpa using r4
    have hH : Holds (Value.int .i64) W gb 0 ss.toArray := holds_of_block_i hgb r4'
    have hgl : gb < W.heap.size := (Array.getElem?_eq_some_iff.1 hgb).1
    refine (AnyM.slices_Sort_int Try.sortL gb 0 cap ss W hH hgl (by omega)).mono ?_
    rintro e w' ⟨rfl, nn, os, rfl⟩
    exact ⟨rfl, ownsRow_sorted_i (by simp) hbase hgb r1 r2 r3, (Below.refl B W).grown (grownBy_sorted_i _) hB (fun j hj => by cases hj; exact hbase)⟩

theorem own_lo {w : World} {B e c n : Nat} {a : Option Addr} {cap : Nat} {xs : List Value} (h : w.ownsRow B e c (.slice a n cap) n xs) : ∀ p, a = some p → B ≤ p.block := by
  rintro p rfl
  rcases h.2 with ⟨h1, -⟩ | ⟨g, cap', cur, h1, hg, -⟩
  · cases h1
  · injection h1 with h1
    injection h1 with h1
    rw [h1]; exact hg

section
variable {w0 w : World} {t mp mf ms : Nat} {L : List Pg}
set_option maxHeartbeats 4000000 in
theorem pthose (h : PT w0 w t mp mf ms L) (hL : L.length < 900000) (o : Int) :
    Calls Try.prog 28 #[.pointer (some ⟨t, 0, none⟩), .int .i64 o] w fun e w' => ∃ a cap, e = .returned (.slice a (idsL L (anyP false o)).length cap) ∧ Ints w' a (idsL L (anyP false o)) ∧ (∀ p, a = some p → w.heap.size ≤ p.block) ∧ Below w.heap.size w w' := by
  have hc := h.c1
  have hm := h.p
  have HM := hid hm
  have HLN := hid hL
  have hcn : L.countP liveP < 900000 := Nat.lt_of_le_of_lt (count_le _ _) hL
  have HCN := hid hcn
  clear h hcn
  go_enter Try.func28, Try.ntmps28
  go_wp2_with (at_range; refine wpList_range_rg rfl _ rfl mp _ L rfl hm hL ?_; intro wq hrg0 hb0 hs0)
  go_frame
  go_loopw [5] (fun s5 wr => ∃ (lf : Int → Bool) (cnt : Nat) (ss : List Int), Col L o lf ss ∧ wr.ownsRow (w.heap.size + 1) 3 1 s5 ss.length (ss.map iv) ∧ ss.length + cnt < 900000 ∧ Rng wr mp w.heap.size L lf cnt ∧ Below w.heap.size w wr ∧ w.heap.size < wr.heap.size) (fun _ wr => wr.rangeLeft mp w.heap.size)
  case atStart => exact ⟨fun _ => true, _, [], Col.start L o, World.ownsRow_nil _ _ _ _, by simpa using HCN.out, hrg0, hb0, by omega⟩
  case round =>
    obtain ⟨lf, cnt, ss, hcol, hown, hlen, hrg, hb, hsz⟩ := hrel
    have HCOL := hid hcol
    have HOWN := hid hown
    have HLEN := hid hlen
    have HB := hid hb
    clear hcol hown hrg0 hb0 hs0 hm hc hb hlen
    go_wp2_with (at_next; refine wpList_next_rg rfl _ rfl mp w.heap.size L lf cnt HLN.out rfl hrg ?_ ?_)
    · intro hd
      have hlen := HLEN.out
      have HS := hid (psort (w.heap.size + 1) _ ss wr HOWN.out (by omega) (by omega))
      have HP := hid (HCOL.out.perm hd)
      clear hd hlen
      go_wp2_with fail
      refine HS.out.mono ?_
      rintro e w2 ⟨rfl, hown2, hb2⟩
      rw [sort_ids HP.out, HP.out.length_eq] at hown2
      obtain ⟨a, cap, hv, hI⟩ := ints_own hown2 (ids_wf HLN.out)
      rw [hv] at hown2
      have HV := hid hv
      have HI := hid hI
      have HO2 := hid (own_lo hown2)
      have HB2 := hid hb2
      clear hown2 hv hI hb2
      go_wp2_with fail
      go_ret
      exact ⟨a, cap, by rw [← HV.out]; rfl, HI.out, fun p hp => Nat.le_of_succ_le (HO2.out p hp), HB.out.trans (HB2.out.mono (Nat.le_succ _))⟩
    · intro xi y w1 cnt1 hx hy hl hrg1 hlt hg1 hs1 hen
      have HX := hid hx
      have HLF := hid hl
      have HY := hid hy
      have HLT := hid hlt
      have HR := hid hrg
      have hb1 : Below w.heap.size w w1 := HB.out.grown hg1 (by omega) (fun k hk => by injection hk with hk; omega)
      have HB1 := hid hb1
      have hown1 : w1.ownsRow (w.heap.size + 1) 3 1 u5 ss.length (ss.map iv) := own_turn HOWN.out (fun k cur hk hc => (hg1.block k (lt_of_block hc) (by intro e; injection e with e; omega)).trans hc)
      have HO1 := hid hown1
      have HG1 := hid hrg1
      have HS1 := hid hs1
      have HML : Hid (mp < w.heap.size) := HM.out.lt
      clear hx hl hlt hrg hrg1 hg1 hb1 hown1
      by_cases ho : y.ow = o
      · have hd : (y.ow == o) = true := by simpa using ho
        have hcol2 : Col L o (less lf xi) (ss ++ [xi]) := HCOL.out.more HX.out HLF.out (by rw [← HY.out]; exact ho)
        have HC2 := hid hcol2
        obtain ⟨ow, how⟩ : ∃ ow, ow = y.ow := ⟨_, rfl⟩
        rw [← how] at hd hen
        clear ho hy hcol2 how
        go_wp2_with (at_builtin; refine app_int (w.heap.size + 1) ss (w1.alloc (.cells #[.int .i64 y.kf, .int .i64 y.ki, .int .i64 y.pl, .int .i64 y.at', .int .i64 ow, .int .i64 y.rf, .int .i64 0, .bool false, .bool y.dr] 45)) rfl _ _ rfl u5 rfl (own_below HO1.out (below_alloc _ _)) xi (wr.heap.size + 1) (by simp [HS1.out]) rfl (by have := HLEN.out; omega) (by simp; omega) ?_; intro v3 w3 hown3 hb3)
        have hb31 : Below (w.heap.size + 1) w1 w3 := (((below_alloc w1 _).mono (by omega)).trans hb3)
        have hrg3 := HG1.out.blocks (hb31.block mp (by have := HML.out; omega)) (hb31.block w.heap.size (by omega))
        have hz3 := hb31.size
        go_roundw
        case rel => exact ⟨less lf xi, cnt1, ss ++ [xi], HC2.out, hown3, by have := HLEN.out; have := HLT.out; simp; omega, hrg3, HB1.out.trans (hb31.mono (by omega)), by omega⟩
        case measure => rw [hrg3.left_eq, HR.out.left_eq]; exact HLT.out
      · have hd : (y.ow == o) = false := by simpa using ho
        have hcol2 : Col L o (less lf xi) ss := HCOL.out.skip (by rw [← HY.out]; exact ho)
        have HC2 := hid hcol2
        obtain ⟨ow, how⟩ : ∃ ow, ow = y.ow := ⟨_, rfl⟩
        rw [← how] at hd hen
        clear ho hy hcol2 how
        go_wp2_with fail
        have hb2 := below_alloc w1 (.cells #[.int .i64 y.kf, .int .i64 y.ki, .int .i64 y.pl, .int .i64 y.at', .int .i64 ow, .int .i64 y.rf, .int .i64 0, .bool false, .bool y.dr] 45)
        go_roundw
        case rel => exact ⟨less lf xi, cnt1, ss, HC2.out, own_below HO1.out hb2, by have := HLEN.out; have := HLT.out; omega, HG1.out.below hb2, bel_trans HB1.out hb2 (Nat.le_refl _), by simp; omega⟩
        case measure => rw [(HG1.out.below hb2).left_eq, HR.out.left_eq]; exact HLT.out
end
end Go.Proofs.Ytponlldgnlckfaa
