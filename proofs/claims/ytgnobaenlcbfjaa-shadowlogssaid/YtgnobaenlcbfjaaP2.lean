/-
  The contracts of Make and of the document's Make.
-/
import Derived.Test.YtgnobaenlcbfjaaP1
import Derived.Test.YtgnobaenlcbfjaaMem
namespace Go.Proofs.Ytgnobaenlcbfjaa
open Go.RowKit

theorem bel_trans {n : Nat} {a b c : World} (h : Below n a b) (k : Below b.heap.size b c) (hn : n ≤ a.heap.size) : Below n a c := h.trans (k.mono (Nat.le_trans hn h.size))
theorem cell_later {w w' : World} {p : Addr} {v : Value} (hb : Below w.heap.size w w') (h : w.cell? p = some v) : w'.cell? p = some v := by
  rw [hb.cell (p := p) (block_lt_of_cell (a := p) h)]; exact h
/-- The fields' widths. -/
def Ws : List Int := [1, 8, 40]
theorem spanWs : SpanOk Ws := by
  intro k hk
  have : k < 3 := hk
  match k, this with
  | 0, _ => simp [Ws]
  | 1, _ => simp [Ws]
  | 2, _ => simp [Ws]
theorem pack_word (g c : Int) : packVal Ws [1, g, c] = 1 + 2 * g.toNat + 512 * c.toNat := by
  have e1 : 2 ^ Int.toNat 1 = 2 := by decide
  have e8 : 2 ^ Int.toNat 8 = 256 := by decide
  have e40 : 2 ^ Int.toNat 40 = 1099511627776 := by decide
  simp only [Ws, packVal, e1, e8, e40]
  omega
theorem fitWs {g c : Int} (hc : 0 ≤ c) (hc' : c < 1099511627776) : Fit Ws [1, g, c] ↔ 0 ≤ g ∧ g ≤ 255 := by
  constructor
  · intro h
    have := h 1 (by decide) (by simp)
    simp [Ws] at this
    omega
  · intro h k hk hk'
    have : k < 3 := hk
    match k, this with
    | 0, _ => simp [Ws]
    | 1, _ => simp [Ws]; omega
    | 2, _ => simp [Ws]; omega
theorem i64_three {g c : Int} (hg : -9223372036854775808 ≤ g ∧ g ≤ 9223372036854775807) (hc : 0 ≤ c) (hc' : c < 1099511627776) : I64s [1, g, c] := by
  intro i hi
  have : i < 3 := hi
  match i, this with
  | 0, _ => simp
  | 1, _ => simp; omega
  | 2, _ => simp; omega
/-- bits.Pack of a shadow's fields. -/
theorem pbits (q q' : Option Addr) (g c : Int) (w : World) (hg : -9223372036854775808 ≤ g ∧ g ≤ 9223372036854775807) (hc : 0 ≤ c) (h1 : IntsAt w q Ws) (h2 : IntsAt w q' [1, g, c % 1099511627776]) :
    ∃ E : Int, Calls Try.prog 24 #[.slice q 3 3, .slice q' 3 3] w fun e w' => e = .returned (.tuple #[.int .u64 (mkS g c), .int .i64 E]) ∧ w' = w := by
  have b0 : 0 ≤ c % 1099511627776 := by omega
  have b1 : c % 1099511627776 < 1099511627776 := by omega
  by_cases hf : 0 ≤ g ∧ g ≤ 255
  · have := pack_len q q' 3 3 3 3 Ws [1, g, c % 1099511627776] w rfl rfl (by decide) rfl h1 h2 (i64_three hg b0 b1) spanWs ((fitWs b0 b1).2 hf)
    rw [pack_word, ← mkS_ok hf.1 hf.2 hc] at this
    exact ⟨0, this⟩
  · have := pack_no q q' 3 3 Ws [1, g, c % 1099511627776] w (by decide) h1 h2 (i64_three hg b0 b1) (fun h => hf ((fitWs b0 b1).1 h.2.2))
    have e : mkS g c = 0 := mkS_no (fun h => hf ⟨h.1, h.2.1⟩)
    rw [e]
    exact ⟨1, this⟩

theorem two1 (w : World) (v0 v1 v2 : Int) (o : Obj) : IntsAt ((w.alloc (.cells #[.int .i64 v0, .int .i64 v1, .int .i64 v2] 3)).alloc o) (some ⟨w.heap.size, 0, none⟩) [v0, v1, v2] :=
  IntsAt.of_row (t := 3) ((RowAt.new w #[.int .i64 v0, .int .i64 v1, .int .i64 v2] 3).alloc o)
theorem two2 (w : World) (v0 v1 v2 : Int) (o : Obj) : IntsAt ((w.alloc o).alloc (.cells #[.int .i64 v0, .int .i64 v1, .int .i64 v2] 3)) (some ⟨w.heap.size + 1, 0, none⟩) [v0, v1, v2] := by
  have := RowAt.new (w.alloc o) #[.int .i64 v0, .int .i64 v1, .int .i64 v2] 3
  rw [show (w.alloc o).heap.size = w.heap.size + 1 by simp] at this
  exact IntsAt.of_row (t := 3) this
set_option maxHeartbeats 4000000 in
theorem pmake (g c : Int) (w : World) (hg : -9223372036854775808 ≤ g ∧ g ≤ 9223372036854775807) : Calls Try.prog 12 #[.int .i64 g, .int .i64 c] w fun e w' => e = .returned (.int .u64 (mkS g c)) ∧ Below w.heap.size w w' := by
  have HR := HRd
  by_cases h : 0 ≤ c
  · have HP : Hid (∀ (q q' : Option Addr) (w : World), IntsAt w q Ws → IntsAt w q' [1, g, c % 1099511627776] → ∃ E : Int, Calls Try.prog 24 #[.slice q 3 3, .slice q' 3 3] w fun e w' => e = .returned (.tuple #[.int .u64 (mkS g c), .int .i64 E]) ∧ w' = w) := fun q q' w h1 h2 => pbits q q' g c w hg h h1 h2
    obtain ⟨C, hC⟩ : ∃ C, C = c % 1099511627776 := ⟨_, rfl⟩
    obtain ⟨X, hX⟩ : ∃ X, X = mkS g c := ⟨_, rfl⟩
    rw [← hX]
    rw [← hX, ← hC] at HP
    have HR' : Hid (∀ w, Calls Try.prog 25 #[.int .i64 c] w fun e w' => e = .returned (.int .i64 C) ∧ w' = w) := by
      intro w; rw [hC]; exact HR.out c w
    clear hX hC HR
    go_enter Try.func12, Try.ntmps12
    go_wp2_with fail
    refine (HR'.out _).mono ?_
    rintro e w1 ⟨rfl, rfl⟩
    go_wp2_with fail
    obtain ⟨E, HE⟩ := HP.out _ _ _ (two1 w 1 8 40 _) (two2 w 1 g C _)
    refine HE.mono ?_
    rintro e w2 ⟨rfl, rfl⟩
    clear HE HP HR'
    have HB : Hid (Below w.heap.size w ((w.alloc (.cells #[.int .i64 1, .int .i64 8, .int .i64 40] 3)).alloc (.cells #[.int .i64 1, .int .i64 g, .int .i64 C] 3))) := bel_trans (below_alloc w _) (below_alloc _ _) (Nat.le_refl _)
    go_wp2_with fail
    go_ret
    exact ⟨rfl, HB.out⟩
  · have HX : Hid (mkS g c = 0) := mkS_no (fun h1 => h h1.2.2)
    have hd : decide (c < 0) = true := by simp; omega
    go_enter Try.func12, Try.ntmps12
    go_wp2
    go_ret
    exact ⟨by rw [HX.out]; rfl, Below.refl _ _⟩
set_option maxHeartbeats 4000000 in
theorem rmake (g c : Int) (w : World) (hc : c ≤ 9223372036854775807) : Calls Try.prog 13 #[.int .i64 g, .int .i64 c] w fun e w' => e = .returned (.int .u64 (mkS g c)) ∧ w' = w := by
  by_cases h1 : 0 ≤ g
  · by_cases h2 : g ≤ 255
    · by_cases h : 0 ≤ c
      · have HX : Hid (mkS g c = 1 + 2 * g.toNat + 512 * (c % 1099511627776).toNat) := mkS_ok h1 h2 h
        go_enter Try.func13, Try.ntmps13
        go_wp2
        go_ret
        refine ⟨?_, rfl⟩
        rw [HX.out, show ((1 + 2 * g.toNat + 512 * (c % 1099511627776).toNat : Nat) : Int) = 1 + 2 * g + 512 * (c % 1099511627776) by omega]
        rfl
      · have HX : Hid (mkS g c = 0) := mkS_no (fun h1 => h h1.2.2)
        have hd : decide (c < 0) = true := by simp; omega
        go_enter Try.func13, Try.ntmps13
        go_wp2
        go_ret
        exact ⟨by rw [HX.out]; rfl, rfl⟩
    · have HX : Hid (mkS g c = 0) := mkS_no (fun h1 => h2 h1.2.1)
      have hd : decide (255 < g) = true := by simp; omega
      go_enter Try.func13, Try.ntmps13
      go_wp2
      go_ret
      exact ⟨by rw [HX.out]; rfl, rfl⟩
  · have HX : Hid (mkS g c = 0) := mkS_no (fun h2 => h1 h2.1)
    have hd : decide (g < 0) = true := by simp; omega
    go_enter Try.func13, Try.ntmps13
    go_wp2
    go_ret
    exact ⟨by rw [HX.out]; rfl, rfl⟩
end Go.Proofs.Ytgnobaenlcbfjaa
