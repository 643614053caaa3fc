/-
  Contract of the document's own Unpack.
-/
import Derived.Test.YtlpbpibjofepjaaRef3
namespace Go.Proofs.Ytlpbpibjofepjaa
open Go.RowKit
set_option maxHeartbeats 1000000 in
theorem refUnpack_no_span (a : Option Addr) (cap : Nat) (ws : List Int) (x : Nat) (w : World) (hl : ws.length ≤ 9223372036854775806) (hc : IntsAt w a ws) (hs : ¬ SpanOk ws) :
    Calls Try.prog 27 #[.slice a ws.length cap, .int .u64 x] w fun e w' => e = .returned (.tuple #[.slice none 0 0, .int .i64 1]) ∧ Below w.heap.size w w' := by
  have HWD : Hid (∀ w, IntsAt w a ws → Calls Try.prog 32 #[.slice a ws.length cap] w fun e w' => e = .returned (.bool false) ∧ w' = w) := fun w h => widths_no a cap ws w hl h hs
  clear hs
  go_enter Try.func27, Try.ntmps27
  go_wp2_with (go_at_call 32; refine (HWD.out _ hc).mono ?_; rintro e w' ⟨rfl, rfl⟩)
  go_ret2
  exact ⟨rfl, Below.refl _ _⟩

def RefUnp (ws : List Int) (x : Nat) (e : Ending) (w' : World) : Prop :=
  (x / 2 ^ ws.sum.toNat = 0 ∧ ∃ u c, e = .returned (.tuple #[.slice u ws.length c, .int .i64 0]) ∧ IntsAt w' u (unpackVals ws x)) ∨
  (x / 2 ^ ws.sum.toNat ≠ 0 ∧ e = .returned (.tuple #[.slice none 0 0, .int .i64 1]))

theorem IntsAt.get {w : World} {b off : Nat} {l : List Int} (h : IntsAt w (some ⟨b, off, none⟩) l) (i : Nat) (hi : i < l.length) : w.cell? ⟨b, off + i, none⟩ = some (.int .i64 (l.getD i 0)) := by
  obtain ⟨b', off', e, hc⟩ := h i hi
  obtain ⟨rfl, rfl⟩ : b = b' ∧ off = off' := by simpa using e
  exact hc

set_option maxHeartbeats 2000000 in
theorem refUnpack_span (a : Option Addr) (cap : Nat) (ws : List Int) (x : Nat) (w : World) (hlen : ws.length ≤ 100) (hc : IntsAt w a ws) (hs : SpanOk ws) (hxl : x < 18446744073709551616) :
    Calls Try.prog 27 #[.slice a ws.length cap, .int .u64 x] w fun e w' => RefUnp ws x e w' ∧ Below w.heap.size w w' := by
  have HWD : Hid (∀ w, IntsAt w a ws → Calls Try.prog 32 #[.slice a ws.length cap] w fun e w' => e = .returned (.bool true) ∧ w' = w) := fun w h => widths_yes a cap ws w (by omega) h hs
  have HS : Hid (SpanOk ws) := hs
  clear hs
  go_enter Try.func27, Try.ntmps27
  go_wp2_with (go_at_call 32; refine (HWD.out _ hc).mono ?_; rintro e w' ⟨rfl, rfl⟩)
  go_loopw [1, 6, 7] (fun xv v i wr => ∃ k : Nat, k ≤ ws.length ∧ i = .int .i64 k ∧ (∃ X : Nat, xv = .int .u64 X ∧ Hid (X = x / 2 ^ (ws.take k).sum.toNat) ∧ X < 18446744073709551616) ∧
      (∃ u c, v = .slice u k c ∧ wr.ownsRow w'.heap.size 3 1 (.slice u k c) k ((unpackVals (ws.take k) x).map (Value.int .i64))) ∧ Below w'.heap.size w' wr) (fun _ _ i _ => ws.length - (intOf i).toNat)
  case atStart => exact ⟨0, by omega, rfl, ⟨x, rfl, by show x = _; simp, hxl⟩, ⟨none, 0, rfl, own_nil _ _⟩, Below.refl _ _⟩
  case round =>
    obtain ⟨k, hk, rfl, ⟨X, rfl, HXk, hXl⟩, ⟨u, c, rfl, hown⟩, hbel⟩ := hrel
    by_cases hlt : k < ws.length
    · obtain ⟨b, off, rfl, hcell⟩ := (hc.below hbel) k hlt
      obtain ⟨g0, g1, g2⟩ := HS.out k hlt
      have HT : Hid (unpackVals (ws.take (k + 1)) x = unpackVals (ws.take k) x ++ [((x / 2 ^ (ws.take k).sum.toNat % 2 ^ ws[k].toNat : Nat) : Int)]) := unpack_take ws x k hlt (fun k h => (HS.out k h).1)
      have HD : Hid (x / 2 ^ (ws.take (k + 1)).sum.toNat = X / 2 ^ ws[k].toNat) := by
        show _ = _
        rw [HXk.out, sum_take_succ ws k hlt, Int.toNat_add (sum_nonneg (fun k h => (HS.out k h).1) k hk) g0, Nat.pow_add, Nat.div_div_eq_div_mul]
      obtain ⟨P, hP⟩ : ∃ P, P = 2 ^ ws[k].toNat := ⟨_, rfl⟩
      have hPp : 1 ≤ P := by have := pow_pos ws[k].toNat; omega
      have hPl : P ≤ 4611686018427387904 := by have : 2 ^ ws[k].toNat ≤ 2 ^ 62 := pow_le (by omega); omega
      have hP0 : ((P : Int) == 0) = false := by simp; omega
      have HP1 : Hid (∀ w, Calls Try.prog 33 #[.int .i64 ws[k]] w fun e w' => e = .returned (.int .u64 P) ∧ w' = w) := fun w => by
        rw [hP]; exact power_int ws[k] w g0 (by omega)
      obtain ⟨V, hV⟩ : ∃ V, V = X % P := ⟨_, rfl⟩
      obtain ⟨Y, hY⟩ : ∃ Y, Y = X / P := ⟨_, rfl⟩
      have hYl : Y < 18446744073709551616 := by rw [hY]; exact Nat.lt_of_le_of_lt (Nat.div_le_self _ _) hXl
      have hVl : V < 4611686018427387904 := by rw [hV]; exact Nat.lt_of_lt_of_le (Nat.mod_lt _ hPp) hPl
      have e1 : (X : Int) % (P : Int) = (V : Int) := by rw [hV, Int.natCast_emod]
      have e3 : (X : Int) / (P : Int) = (Y : Int) := by rw [hY, Int.natCast_ediv]
      have HV : Hid (unpackVals (ws.take (k + 1)) x = unpackVals (ws.take k) x ++ [(V : Int)]) := by show _ = _; rw [HT.out, ← HXk.out, ← hP, hV]
      have HY : Hid (Y = x / 2 ^ (ws.take (k + 1)).sum.toNat) := by show _ = _; rw [HD.out, hY, hP]
      clear hV hY hP
      go_wp2_with (first
        | (go_at_call 33; refine (HP1.out _).mono ?_; rintro e wq ⟨rfl, rfl⟩)
        | (at_builtin; refine wpList_append_on rfl (.tmp 17) (.tmp 26) rfl w' w'.heap.size (.slice u k c) k _ [(V : Int)] _ (k + 1) _ _ _ rfl (hown.alloc _) rfl rfl (fun h => by cases h) (ints_new1 _ _ 3) HV.out rfl (by omega) (by have := hbel.size; simp; omega) (hbel.alloc hbel.size _) ?_; intro a2 c2 w2 own2 i2 b2; have hcell2 := (hc.below b2).get k hlt))
      go_roundw
      case rel => exact ⟨k + 1, by omega, by go_num, ⟨Y, rfl, HY.out, hYl⟩, ⟨a2, c2, rfl, own2⟩, b2⟩
      case measure => simp [intOf]; omega
    · obtain rfl : k = ws.length := by omega
      have HX : Hid (X = x / 2 ^ ws.sum.toNat) := by have := HXk.out; rw [List.take_length] at this; exact this
      rw [List.take_length] at hown
      obtain ⟨-, u', c', e, hI, -⟩ := own_shape hown
      obtain ⟨rfl, -, rfl⟩ : u = u' ∧ ws.length = ws.length ∧ c = c' := by simpa using e
      clear HXk hown e
      by_cases hX : X = 0
      · have hXn : ¬ (0 : Int) < (X : Int) := by omega
        have HX0 : Hid (X = 0) := hX
        clear hX
        go_wp2
        go_ret2
        exact ⟨Or.inl ⟨by rw [← HX.out]; exact HX0.out, u, c, rfl, hI⟩, hbel⟩
      · have hXn : (0 : Int) < (X : Int) := by omega
        have HX0 : Hid (¬ X = 0) := hX
        clear hX
        go_wp2
        go_ret2
        exact ⟨Or.inr ⟨by rw [← HX.out]; exact HX0.out, rfl⟩, hbel⟩

theorem refUnpack_yes (a : Option Addr) (cap : Nat) (ws : List Int) (x : Nat) (w : World) (hlen : ws.length ≤ 100) (hc : IntsAt w a ws) (hxl : x < 18446744073709551616) (h : SpanOk ws ∧ x / 2 ^ ws.sum.toNat = 0) :
    Calls Try.prog 27 #[.slice a ws.length cap, .int .u64 x] w fun e w' => ∃ u c, e = .returned (.tuple #[.slice u ws.length c, .int .i64 0]) ∧ IntsAt w' u (unpackVals ws x) ∧ Below w.heap.size w w' := by
  refine (refUnpack_span a cap ws x w hlen hc h.1 hxl).mono ?_
  rintro e w' ⟨⟨-, u, c, rfl, hI⟩ | ⟨h1, -⟩, hb⟩
  · exact ⟨u, c, rfl, hI, hb⟩
  · exact absurd h.2 h1
theorem refUnpack_no (a : Option Addr) (cap : Nat) (ws : List Int) (x : Nat) (w : World) (hlen : ws.length ≤ 100) (hc : IntsAt w a ws) (hxl : x < 18446744073709551616) (h : ¬ (SpanOk ws ∧ x / 2 ^ ws.sum.toNat = 0)) :
    Calls Try.prog 27 #[.slice a ws.length cap, .int .u64 x] w fun e w' => e = .returned (.tuple #[.slice none 0 0, .int .i64 1]) ∧ Below w.heap.size w w' := by
  by_cases hs : SpanOk ws
  · refine (refUnpack_span a cap ws x w hlen hc hs hxl).mono ?_
    rintro e w' ⟨⟨h1, -⟩ | ⟨-, rfl⟩, hb⟩
    · exact absurd ⟨hs, h1⟩ h
    · exact ⟨rfl, hb⟩
  · exact refUnpack_no_span a cap ws x w (by omega) hc hs


end Go.Proofs.Ytlpbpibjofepjaa
