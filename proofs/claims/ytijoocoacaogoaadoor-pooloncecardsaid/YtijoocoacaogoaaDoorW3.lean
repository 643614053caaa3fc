/-
  Contracts of bits.Map: New, Len, has, Get, Set.
-/
import Derived.Test.YtijoocoacaogoaaDoorRows
import Derived.Test.YtijoocoacaogoaaDoorMem
namespace Go.Proofs.YtijoocoacaogoaaDoor
open Go.RowKit

/-- A bits.Map at block bm, its words in block bw, that holds the bits bs. -/
structure MapIs (w : World) (bm bw : Nat) (bs : List Bool) (ws : List Nat) : Prop where
  m : RowAt w bm 55 [.int .i64 bs.length, .slice (some ⟨bw, 0, none⟩) ws.length ws.length]
  r : RowAt w bw 56 (ws.map fun (x : Nat) => Value.int .u64 (x : Int))
  ne : bm ≠ bw
  len : ws.length = (bs.length + 63) / 64
  le : bs.length ≤ 65536
  lt : ∀ k (h : k < ws.length), ws[k] < 18446744073709551616
  bit : ∀ i, i < 64 * ws.length → (ws.getD (i / 64) 0).testBit (i % 64) = bs.getD i false

theorem has_any (bm bw : Nat) (bs : List Bool) (ws : List Nat) (i : Int) (w : World) (hm : MapIs w bm bw bs ws) :
    Calls Tryd.prog 30 #[.pointer (some ⟨bm, 0, none⟩), .int .i64 i] w fun e w' => e = .returned (.bool (decide (0 ≤ i ∧ i < bs.length))) ∧ w' = w := by
  have hc : w.cell? ⟨bm, 0, none⟩ = some (.int .i64 bs.length) := by rw [hm.m.cell]; rfl
  have hle := hm.le
  by_cases h0 : 0 ≤ i
  · go_enter Tryd.func30, Tryd.ntmps30
    go_wp2
    go_ret
    exact ⟨by simp [h0], rfl⟩
  · go_enter Tryd.func30, Tryd.ntmps30
    go_wp2
    go_ret
    exact ⟨by simp; omega, rfl⟩

theorem test_val (x i : Nat) (h : x < 18446744073709551616) : (bits BinOp.and IntKind.u64 (↑x / 2 ^ i) 1 == 1) = x.testBit i := by
  have e : ((x : Int) / 2 ^ i) = ((x / 2 ^ i : Nat) : Int) := by rw [← cast_pow, Int.natCast_ediv]
  have hlt : x / 2 ^ i < 18446744073709551616 := Nat.lt_of_le_of_lt (Nat.div_le_self _ _) h
  have := bits_and_u64_nat (x / 2 ^ i) 1 hlt (by decide)
  rw [e]
  rw [show (1 : Int) = ((1 : Nat) : Int) from rfl, this, nat_mask1, Nat.testBit_eq_decide_div_mod_eq]
  rcases Nat.mod_two_eq_zero_or_one (x / 2 ^ i) with h | h <;> simp [h]

theorem len_any (bm bw : Nat) (bs : List Bool) (ws : List Nat) (w : World) (hm : MapIs w bm bw bs ws) :
    Calls Tryd.prog 29 #[.pointer (some ⟨bm, 0, none⟩)] w fun e w' => e = .returned (.int .i64 bs.length) ∧ w' = w := by
  have hc : w.cell? ⟨bm, 0, none⟩ = some (.int .i64 bs.length) := by rw [hm.m.cell]; rfl
  go_enter Tryd.func29, Tryd.ntmps29
  go_wp2
  go_ret
  exact ⟨rfl, rfl⟩

def bget (bs : List Bool) (i : Int) : Bool := decide (0 ≤ i) && bs.getD i.toNat false

set_option maxHeartbeats 400000 in
theorem get_in (bm bw : Nat) (bs : List Bool) (ws : List Nat) (n : Nat) (w : World) (hm : MapIs w bm bw bs ws) (hn : n < bs.length) :
    Calls Tryd.prog 28 #[.pointer (some ⟨bm, 0, none⟩), .int .i64 n] w fun e w' => e = .returned (.bool (bs.getD n false)) ∧ w' = w := by
  have hle := hm.le
  have hlen := hm.len
  have hk : n / 64 < ws.length := by omega
  have hc1 : w.cell? ⟨bm, 1, none⟩ = some (.slice (some ⟨bw, 0, none⟩) ws.length ws.length) := by rw [hm.m.cell]; rfl
  have hc2 : w.cell? ⟨bw, n / 64, none⟩ = some (.int .u64 (ws[n / 64] : Int)) := by rw [hm.r.cell]; simp [hk]
  have HH : Hid (∀ w, MapIs w bm bw bs ws → Calls Tryd.prog 30 #[.pointer (some ⟨bm, 0, none⟩), .int .i64 n] w fun e w' => e = .returned (.bool true) ∧ w' = w) := fun w hm => by
    refine (has_any bm bw bs ws n w hm).mono ?_
    rintro e w' ⟨rfl, rfl⟩
    exact ⟨by rw [decide_eq_true (by omega)], rfl⟩
  have hlt := hm.lt _ hk
  have hbit := hm.bit n (by omega)
  have HB : Hid (ws[n / 64].testBit (n % 64) = bs.getD n false) := by unfold Hid; simpa [hk] using hbit
  clear hbit hlen
  go_enter Tryd.func28, Tryd.ntmps28
  go_wp2_with (go_at_call 30; refine (HH.out _ hm).mono ?_; rintro e w' ⟨rfl, rfl⟩)
  go_ret
  refine ⟨?_, rfl⟩
  rw [← HB.out, ← test_val _ _ hlt]
  simp

set_option maxHeartbeats 400000 in
theorem get_out (bm bw : Nat) (bs : List Bool) (ws : List Nat) (i : Int) (w : World) (hm : MapIs w bm bw bs ws) (hn : ¬ (0 ≤ i ∧ i < bs.length)) :
    Calls Tryd.prog 28 #[.pointer (some ⟨bm, 0, none⟩), .int .i64 i] w fun e w' => e = .returned (.bool false) ∧ w' = w := by
  have HH : Hid (∀ w, MapIs w bm bw bs ws → Calls Tryd.prog 30 #[.pointer (some ⟨bm, 0, none⟩), .int .i64 i] w fun e w' => e = .returned (.bool false) ∧ w' = w) := fun w hm => by
    refine (has_any bm bw bs ws i w hm).mono ?_
    rintro e w' ⟨rfl, rfl⟩
    exact ⟨by rw [decide_eq_false hn], rfl⟩
  clear hn
  go_enter Tryd.func28, Tryd.ntmps28
  go_wp2_with (go_at_call 30; refine (HH.out _ hm).mono ?_; rintro e w' ⟨rfl, rfl⟩)
  go_ret
  exact ⟨rfl, rfl⟩

theorem bget_out {bs : List Bool} {i : Int} (hn : ¬ (0 ≤ i ∧ i < bs.length)) : bget bs i = false := by
  unfold bget
  by_cases h0 : 0 ≤ i
  · have : bs.length ≤ i.toNat := by omega
    simp [this]
  · simp [h0]
theorem bget_in {bs : List Bool} (n : Nat) : bget bs n = bs.getD n false := by simp [bget]

theorem get_any (bm bw : Nat) (bs : List Bool) (ws : List Nat) (i : Int) (w : World) (hm : MapIs w bm bw bs ws) :
    Calls Tryd.prog 28 #[.pointer (some ⟨bm, 0, none⟩), .int .i64 i] w fun e w' => e = .returned (.bool (bget bs i)) ∧ w' = w := by
  by_cases hn : 0 ≤ i ∧ i < bs.length
  · obtain ⟨n, rfl⟩ := Int.eq_ofNat_of_zero_le hn.1
    rw [bget_in]
    exact get_in bm bw bs ws n w hm (by omega)
  · rw [bget_out hn]
    exact get_out bm bw bs ws i w hm hn

/-! ### Set -/
theorem MapIs.flip {w : World} {bm bw : Nat} {bs : List Bool} {ws : List Nat} (hm : MapIs w bm bw bs ws) (n : Nat) (on : Bool) (hn : n < bs.length) (hk : n / 64 < ws.length) (hon : bs.getD n false = !on) :
    MapIs (w.setCell ⟨bw, n / 64, none⟩ (.int .u64 ((ws[n / 64] ^^^ 2 ^ (n % 64) : Nat) : Int))) bm bw (bs.set n on) (ws.set (n / 64) (ws.getD (n / 64) 0 ^^^ 2 ^ (n % 64))) := by
  have eg : ws.getD (n / 64) 0 = ws[n / 64] := by simp [hk]
  have hp : 2 ^ (n % 64) < 2 ^ 64 := Nat.pow_lt_pow_right (by decide) (Nat.mod_lt _ (by decide))
  refine ⟨?_, ?_, hm.ne, by simpa using hm.len, by simpa using hm.le, ?_, ?_⟩
  · simpa using hm.m.other hm.ne _ _
  · have := hm.r.set (n / 64) (.int .u64 ((ws[n / 64] ^^^ 2 ^ (n % 64) : Nat) : Int))
    rw [eg, List.map_set]
    exact this
  · intro k h
    rw [List.getElem_set]
    split
    · rw [eg]; exact Nat.xor_lt_two_pow (n := 64) (hm.lt _ hk) hp
    · exact hm.lt k (by simpa using h)
  · intro i hi
    have hi' : i < 64 * ws.length := by simpa using hi
    have hb := hm.bit i hi'
    have hik : i / 64 < ws.length := by omega
    rw [eg]
    simp only [List.getD_eq_getElem?_getD, List.getElem?_set] at hb hon ⊢
    by_cases he : n / 64 = i / 64
    · rw [if_pos he, if_pos hk]
      have eik : ws[i / 64]? = some ws[n / 64] := by rw [← he]; exact List.getElem?_eq_getElem hk
      rw [eik] at hb
      simp only [Option.getD_some] at hb ⊢
      rw [Nat.testBit_xor, Nat.testBit_two_pow, hb]
      by_cases hni : n = i
      · subst hni
        rw [if_pos rfl, if_pos hn, hon]
        cases on <;> simp
      · have : ¬ (n % 64 = i % 64) := by omega
        rw [if_neg hni]
        simp [this]
    · rw [if_neg he, hb]
      have : n ≠ i := by intro h; exact he (by rw [h])
      rw [if_neg this]

def bset (bs : List Bool) (i : Int) (on : Bool) : List Bool := if 0 ≤ i then bs.set i.toNat on else bs
def turned (bs : List Bool) (i : Int) (on : Bool) : Bool := decide (0 ≤ i ∧ i < bs.length) && (bget bs i != on)

set_option maxHeartbeats 400000 in
theorem set_out (bm bw : Nat) (bs : List Bool) (ws : List Nat) (i : Int) (on : Bool) (w : World) (hm : MapIs w bm bw bs ws) (hn : ¬ (0 ≤ i ∧ i < bs.length)) :
    Calls Tryd.prog 25 #[.pointer (some ⟨bm, 0, none⟩), .int .i64 i, .bool on] w fun e w' => e = .returned (.bool false) ∧ w' = w := by
  have HH : Hid (∀ w, MapIs w bm bw bs ws → Calls Tryd.prog 30 #[.pointer (some ⟨bm, 0, none⟩), .int .i64 i] w fun e w' => e = .returned (.bool false) ∧ w' = w) := fun w hm => by
    refine (has_any bm bw bs ws i w hm).mono ?_
    rintro e w' ⟨rfl, rfl⟩
    exact ⟨by rw [decide_eq_false hn], rfl⟩
  clear hn
  go_enter Tryd.func25, Tryd.ntmps25
  go_wp2_with (go_at_call 30; refine (HH.out _ hm).mono ?_; rintro e w' ⟨rfl, rfl⟩)
  go_ret
  exact ⟨rfl, rfl⟩

set_option maxHeartbeats 400000 in
theorem set_same (bm bw : Nat) (bs : List Bool) (ws : List Nat) (n : Nat) (on : Bool) (w : World) (hm : MapIs w bm bw bs ws) (hn : n < bs.length) (hon : bs.getD n false = on) :
    Calls Tryd.prog 25 #[.pointer (some ⟨bm, 0, none⟩), .int .i64 n, .bool on] w fun e w' => e = .returned (.bool false) ∧ w' = w := by
  have HH : Hid (∀ w, MapIs w bm bw bs ws → Calls Tryd.prog 30 #[.pointer (some ⟨bm, 0, none⟩), .int .i64 n] w fun e w' => e = .returned (.bool true) ∧ w' = w) := fun w hm => by
    refine (has_any bm bw bs ws n w hm).mono ?_
    rintro e w' ⟨rfl, rfl⟩
    exact ⟨by rw [decide_eq_true (by omega)], rfl⟩
  have HG : Hid (∀ w, MapIs w bm bw bs ws → Calls Tryd.prog 28 #[.pointer (some ⟨bm, 0, none⟩), .int .i64 n] w fun e w' => e = .returned (.bool on) ∧ w' = w) := fun w hm => by
    rw [← hon]; exact get_in bm bw bs ws n w hm hn
  clear hon
  go_enter Tryd.func25, Tryd.ntmps25
  go_wp2_with (first | (go_at_call 30; refine (HH.out _ hm).mono ?_; rintro e w' ⟨rfl, rfl⟩) | (go_at_call 28; refine (HG.out _ hm).mono ?_; rintro e w' ⟨rfl, rfl⟩))
  go_ret
  exact ⟨rfl, rfl⟩

set_option maxHeartbeats 400000 in
theorem set_turn (bm bw : Nat) (bs : List Bool) (ws : List Nat) (n : Nat) (on : Bool) (w : World) (hm : MapIs w bm bw bs ws) (hn : n < bs.length) (hon : bs.getD n false = !on) :
    Calls Tryd.prog 25 #[.pointer (some ⟨bm, 0, none⟩), .int .i64 n, .bool on] w fun e w' => e = .returned (.bool true) ∧ MapIs w' bm bw (bs.set n on) (ws.set (n / 64) (ws.getD (n / 64) 0 ^^^ 2 ^ (n % 64))) ∧ But bw w w' := by
  have hle := hm.le
  have hlen := hm.len
  have hk : n / 64 < ws.length := by omega
  have HH : Hid (∀ w, MapIs w bm bw bs ws → Calls Tryd.prog 30 #[.pointer (some ⟨bm, 0, none⟩), .int .i64 n] w fun e w' => e = .returned (.bool true) ∧ w' = w) := fun w hm => by
    refine (has_any bm bw bs ws n w hm).mono ?_
    rintro e w' ⟨rfl, rfl⟩
    exact ⟨by rw [decide_eq_true (by omega)], rfl⟩
  have HG : Hid (∀ w, MapIs w bm bw bs ws → Calls Tryd.prog 28 #[.pointer (some ⟨bm, 0, none⟩), .int .i64 n] w fun e w' => e = .returned (.bool !on) ∧ w' = w) := fun w hm => by
    rw [← hon]; exact get_in bm bw bs ws n w hm hn
  have HO : Hid (bs.getD n false = !on) := hon
  have hx : ((!on) == on) = false := by cases on <;> rfl
  have hc1 : w.cell? ⟨bm, 1, none⟩ = some (.slice (some ⟨bw, 0, none⟩) ws.length ws.length) := by rw [hm.m.cell]; rfl
  have hc2 : w.cell? ⟨bw, n / 64, none⟩ = some (.int .u64 (ws[n / 64] : Int)) := by rw [hm.r.cell]; simp [hk]
  have hf2 : w.frozen? ⟨bw, n / 64, none⟩ = false := hm.r.frozen _
  have hlt := hm.lt _ hk
  clear hon hlen
  go_enter Tryd.func25, Tryd.ntmps25
  go_wp2_with (first | (go_at_call 30; refine (HH.out _ hm).mono ?_; rintro e w' ⟨rfl, rfl⟩) | (go_at_call 28; refine (HG.out _ hm).mono ?_; rintro e w' ⟨rfl, rfl⟩))
  go_ret
  refine ⟨rfl, ?_, But.setCell _ _ _ _⟩
  have e : bits BinOp.xor IntKind.u64 (↑ws[n / 64]) (IntKind.u64.wrap (2 ^ (n % 64))) = ((ws[n / 64] ^^^ 2 ^ (n % 64) : Nat) : Int) := by
    have h1 : 2 ^ (n % 64) ≤ 2 ^ 63 := pow_le (by omega)
    have h2 : IntKind.u64.wrap (2 ^ (n % 64)) = ((2 ^ (n % 64) : Nat) : Int) := by rw [IntKind.wrap_u64, ← cast_pow]; generalize 2 ^ (n % 64) = p at *; omega
    rw [h2, bits_xor_u64_nat _ _ hlt (by omega)]
  rw [e]
  exact hm.flip n on hn hk HO.out

set_option maxHeartbeats 400000 in
theorem new_core (n : Int) (k : Nat) (w : World) (hk : n < 0 ∧ k = 0 ∨ n = k ∧ k ≤ 65536 ∨ 65536 < n ∧ k = 65536) :
    Calls Tryd.prog 24 #[.int .i64 n] w fun e w' => e = .returned (.pointer (some ⟨w.heap.size + 1, 0, none⟩)) ∧ MapIs w' (w.heap.size + 1) w.heap.size (List.replicate k false) (List.replicate ((k + 63) / 64) 0) ∧ Below w.heap.size w w' := by
  have e3 : (Tryd.prog.info? 56).map (fun i => (i.zero, i.size, i.bytes)) = some (some (.int .u64 0), 1, 8) := by kernel_rfl
  have HE : Hid ((Tryd.prog.info? 56).map (fun i => (i.zero, i.size, i.bytes)) = some (some (.int .u64 0), 1, 8)) := e3
  clear e3
  have h2 : k ≤ 65536 := by omega
  have hfin : ∀ w1 : World, RowAt w1 w.heap.size 56 (List.replicate ((k + 63) / 64) (.int .u64 0)) → w1.heap.size = w.heap.size + 1 → Below w.heap.size w w1 →
      MapIs (w1.alloc (.cells #[.int .i64 k, .slice (some ⟨w.heap.size, 0, none⟩) ((k + 63) / 64) ((k + 63) / 64)] 55)) (w.heap.size + 1) w.heap.size (List.replicate k false) (List.replicate ((k + 63) / 64) 0) ∧
      Below w.heap.size w (w1.alloc (.cells #[.int .i64 k, .slice (some ⟨w.heap.size, 0, none⟩) ((k + 63) / 64) ((k + 63) / 64)] 55)) := by
    intro w1 hr hz hb
    refine ⟨⟨?_, ?_, by omega, by simp, by simpa using h2, ?_, ?_⟩, hb.alloc (by omega) _⟩
    · have := RowAt.new w1 #[.int .i64 k, .slice (some ⟨w.heap.size, 0, none⟩) ((k + 63) / 64) ((k + 63) / 64)] 55
      rw [hz] at this
      simpa using this
    · simpa using hr.alloc _
    · intro j hj; simp
    · intro i hi
      have e1 : (List.replicate ((k + 63) / 64) 0).getD (i / 64) 0 = 0 := by
        simp only [List.getD_eq_getElem?_getD, List.getElem?_replicate]; split <;> rfl
      have e2 : (List.replicate k false).getD i false = false := by
        simp only [List.getD_eq_getElem?_getD, List.getElem?_replicate]; split <;> rfl
      rw [e1, e2]; simp
  have HF : Hid _ := hfin
  clear hfin
  rcases hk with ⟨h1, h3⟩ | ⟨rfl, -⟩ | ⟨h1, h3⟩
  · have HK : Hid (k = 0) := h3
    clear h3
    go_enter Tryd.func24, Tryd.ntmps24
    go_wp2_with (at_make; refine wpList_make_row _ rfl (.tmp 10) (.tmp 10) 53 rfl 56 (.int .u64 0) 8 Tryd.underlying53 HE.out rfl .i64 .i64 _ _ ((k + 63) / 64) rfl rfl (by have := HK.out; omega) (by have := HK.out; omega) (by omega) (by omega) ?_; intro w1 hr hz hb)
    go_ret
    obtain ⟨f1, f2⟩ := HF.out w1 hr hz hb
    have e : (k : Int) = 0 := by have := HK.out; omega
    rw [e] at f1 f2
    exact ⟨by simp, f1, f2⟩
  · go_enter Tryd.func24, Tryd.ntmps24
    go_wp2_with (at_make; refine wpList_make_row _ rfl (.tmp 10) (.tmp 10) 53 rfl 56 (.int .u64 0) 8 Tryd.underlying53 HE.out rfl .i64 .i64 _ _ ((k + 63) / 64) rfl rfl (by omega) (by omega) (by omega) (by omega) ?_; intro w1 hr hz hb)
    go_ret
    obtain ⟨f1, f2⟩ := HF.out w1 hr hz hb
    exact ⟨by simp, f1, f2⟩
  · have HK : Hid (k = 65536) := h3
    clear h3
    go_enter Tryd.func24, Tryd.ntmps24
    go_wp2_with (at_make; refine wpList_make_row _ rfl (.tmp 10) (.tmp 10) 53 rfl 56 (.int .u64 0) 8 Tryd.underlying53 HE.out rfl .i64 .i64 _ _ ((k + 63) / 64) rfl rfl (by have := HK.out; omega) (by have := HK.out; omega) (by omega) (by omega) ?_; intro w1 hr hz hb)
    go_ret
    obtain ⟨f1, f2⟩ := HF.out w1 hr hz hb
    have e : (k : Int) = 65536 := by have := HK.out; omega
    rw [e] at f1 f2
    exact ⟨by simp, f1, f2⟩
end Go.Proofs.YtijoocoacaogoaaDoor
