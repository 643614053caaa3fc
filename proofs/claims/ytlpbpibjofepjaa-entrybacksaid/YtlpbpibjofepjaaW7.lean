/-
  Contracts of bits.Unpack and bits.Digits.
-/
import Derived.Test.YtlpbpibjofepjaaW2
import Derived.Test.YtlpbpibjofepjaaMem
namespace Go.Proofs.Ytlpbpibjofepjaa
open Go.RowKit
def unpackVals : List Int → Nat → List Int
  | [], _ => []
  | w :: ws, x => ((x % 2 ^ w.toNat : Nat) : Int) :: unpackVals ws (x / 2 ^ w.toNat)

theorem unpack_len : ∀ (ws : List Int) (x : Nat), (unpackVals ws x).length = ws.length
  | [], _ => rfl
  | _ :: ws, x => by simp [unpackVals, unpack_len ws]

theorem unpack_snoc : ∀ (ws : List Int) (w : Int) (x : Nat), (∀ k (h : k < ws.length), 0 ≤ ws[k]) →
    unpackVals (ws ++ [w]) x = unpackVals ws x ++ [((x / 2 ^ ws.sum.toNat % 2 ^ w.toNat : Nat) : Int)]
  | [], w, x, _ => by simp [unpackVals]
  | a :: ws, w, x, hn => by
    have ih := unpack_snoc ws w (x / 2 ^ a.toNat) (fun k hk => by have := hn (k + 1) (by simp; omega); simpa using this)
    have h0 : 0 ≤ a := hn 0 (by simp)
    have h1 : 0 ≤ ws.sum := by
      have := sum_nonneg (l := ws) (fun k hk => by have := hn (k + 1) (by simp; omega); simpa using this) ws.length (Nat.le_refl _)
      simpa using this
    simp only [List.cons_append, unpackVals, List.sum_cons]
    rw [ih, Int.toNat_add h0 h1, Nat.pow_add, Nat.div_div_eq_div_mul]

theorem unpack_take (ws : List Int) (x k : Nat) (h : k < ws.length) (hn : ∀ k (h : k < ws.length), 0 ≤ ws[k]) :
    unpackVals (ws.take (k + 1)) x = unpackVals (ws.take k) x ++ [((x / 2 ^ (ws.take k).sum.toNat % 2 ^ ws[k].toNat : Nat) : Int)] := by
  rw [take_snoc ws k h, unpack_snoc]
  intro j hj
  have hj' : j < ws.length := by simp at hj; omega
  simpa using hn j hj'

/-- A store behind what has been laid already. -/
theorem row_step (done : List Int) (n k : Nat) (v : Int) (hd : done.length = k) (hk : k < n) :
    (done.map (Value.int .i64) ++ List.replicate (n - k) (Value.int .i64 0)).set k (Value.int .i64 v) = (done ++ [v]).map (Value.int .i64) ++ List.replicate (n - (k + 1)) (Value.int .i64 0) := by
  obtain ⟨m, hm⟩ : ∃ m, n - k = m + 1 := ⟨n - k - 1, by omega⟩
  rw [hm, show n - (k + 1) = m from by omega, List.replicate_succ, List.set_append]
  simp [hd]

theorem and_ones_i64 (D : Nat) (wd : Int) (h0 : 0 ≤ wd) (h : wd ≤ 62) (hD : D < 18446744073709551616) :
    bits BinOp.and IntKind.u64 (D : Int) (2 ^ wd.toNat - 1) = ((D % 2 ^ wd.toNat : Nat) : Int) ∧ D % 2 ^ wd.toNat < 4611686018427387904 := by
  refine ⟨and_ones D wd.toNat (by omega) hD, ?_⟩
  have h1 := Nat.mod_lt D (pow_pos wd.toNat)
  have h2 : 2 ^ wd.toNat ≤ 2 ^ 62 := pow_le (by omega)
  omega

theorem shr_val (D : Nat) (s : Int) : ((D : Int) / 2 ^ s.toNat) = ((D / 2 ^ s.toNat : Nat) : Int) := by rw [← cast_pow, Int.natCast_ediv]

theorem info3 : (Try.prog.info? 3).map (fun i => (i.zero, i.size, i.bytes)) = some (some (.int .i64 0), 1, 8) := by kernel_rfl

set_option maxHeartbeats 400000 in
theorem unpack_no_span (a : Option Addr) (cap : Nat) (ws : List Int) (x : Nat) (w : World) (hl : ws.length ≤ 9223372036854775807) (hc : IntsAt w a ws) (hs : ¬ SpanOk ws) :
    Calls Try.prog 26 #[.slice a ws.length cap, .int .u64 x] w fun e w' => e = .returned (.tuple #[.slice none 0 0, .int .i64 1]) ∧ w' = w := by
  have HX : Hid (∀ w, IntsAt w a ws → Calls Try.prog 30 #[.slice a ws.length cap] w fun e w' => e = .returned (.tuple #[.int .i64 0, .bool false]) ∧ w' = w) := fun w hc => span_no _ _ _ _ hl hc hs
  clear hs
  go_enter Try.func26, Try.ntmps26
  go_wp2_with (go_at_call 30; refine (HX.out _ hc).mono ?_; rintro e w' ⟨rfl, rfl⟩)
  go_ret2
  exact ⟨rfl, rfl⟩

theorem sum_le64 {ws : List Int} (hs : SpanOk ws) : 0 ≤ ws.sum ∧ ws.sum ≤ 64 := by
  have h := sum_nonneg (fun k h => (hs k h).1) ws.length (Nat.le_refl _)
  rw [List.take_length] at h
  refine ⟨h, ?_⟩
  cases hn : ws.length with
  | zero => have : ws = [] := by simpa using hn
            subst this; simp
  | succ n =>
    have := (hs n (by omega)).2.2
    rw [← sum_take_succ ws n (by omega), ← hn, List.take_length] at this
    exact this

set_option maxHeartbeats 400000 in
theorem unpack_no_high (a : Option Addr) (cap : Nat) (ws : List Int) (x : Nat) (w : World) (hl : ws.length ≤ 9223372036854775807) (hc : IntsAt w a ws) (hs : SpanOk ws) (hx : x / 2 ^ ws.sum.toNat ≠ 0) :
    Calls Try.prog 26 #[.slice a ws.length cap, .int .u64 x] w fun e w' => e = .returned (.tuple #[.slice none 0 0, .int .i64 1]) ∧ w' = w := by
  have HX : Hid (∀ w, IntsAt w a ws → Calls Try.prog 30 #[.slice a ws.length cap] w fun e w' => e = .returned (.tuple #[.int .i64 ws.sum, .bool true]) ∧ w' = w) := fun w hc => span_yes _ _ _ _ hl hc hs
  obtain ⟨h1, h2⟩ := sum_le64 hs
  obtain ⟨D, hD⟩ : ∃ D, D = x / 2 ^ ws.sum.toNat := ⟨_, rfl⟩
  have hv : ((x : Int) / 2 ^ ws.sum.toNat) = (D : Int) := by rw [hD]; exact shr_val x ws.sum
  have hne : ((D : Int) != 0) = true := by simp; omega
  clear hs hx hD
  go_enter Try.func26, Try.ntmps26
  go_wp2_with (go_at_call 30; refine (HX.out _ hc).mono ?_; rintro e w' ⟨rfl, rfl⟩)
  go_ret2
  exact ⟨rfl, rfl⟩

set_option maxHeartbeats 1000000 in
theorem unpack_yes (a : Option Addr) (cap : Nat) (ws : List Int) (x : Nat) (w : World) (hlen : ws.length ≤ 17592186044416) (hc : IntsAt w a ws) (hs : SpanOk ws) (hxl : x < 18446744073709551616) (hx : x / 2 ^ ws.sum.toNat = 0) :
    Calls Try.prog 26 #[.slice a ws.length cap, .int .u64 x] w fun e w' => e = .returned (.tuple #[.slice (some ⟨w.heap.size, 0, none⟩) ws.length ws.length, .int .i64 0]) ∧ IntsAt w' (some ⟨w.heap.size, 0, none⟩) (unpackVals ws x) ∧ Below w.heap.size w w' := by
  have HX : Hid (∀ w, IntsAt w a ws → Calls Try.prog 30 #[.slice a ws.length cap] w fun e w' => e = .returned (.tuple #[.int .i64 ws.sum, .bool true]) ∧ w' = w) := fun w hc => span_yes _ _ _ _ (by omega) hc hs
  obtain ⟨h1, h2⟩ := sum_le64 hs
  obtain ⟨D, hD⟩ : ∃ D, D = x / 2 ^ ws.sum.toNat := ⟨_, rfl⟩
  have hv : ((x : Int) / 2 ^ ws.sum.toNat) = (D : Int) := by rw [hD]; exact shr_val x ws.sum
  have hne : ((D : Int) != 0) = false := by simp; omega
  clear hx hD
  have HS : Hid (SpanOk ws) := hs
  clear hs
  go_enter Try.func26, Try.ntmps26
  go_wp2_with (first
    | (go_at_call 30; refine (HX.out _ hc).mono ?_; rintro e w' ⟨rfl, rfl⟩)
    | (at_make; refine wpList_make_row _ rfl (.tmp 26) (.tmp 26) 43 rfl 3 (.int .i64 0) 8 Try.underlying43 info3 rfl .i64 .i64 _ _ ws.length rfl rfl rfl rfl (by omega) (by omega) ?_; intro w1 hr hz hb))
  clear hv hne
  go_loopw [1, 30] (fun xv i wr => ∃ k : Nat, k ≤ ws.length ∧ i = .int .i64 k ∧ (∃ X : Nat, xv = .int .u64 X ∧ Hid (X = x / 2 ^ (ws.take k).sum.toNat) ∧ X < 18446744073709551616) ∧
      RowAt wr w'.heap.size 3 ((unpackVals (ws.take k) x).map (Value.int .i64) ++ List.replicate (ws.length - k) (Value.int .i64 0)) ∧ Below w'.heap.size w' wr) (fun _ i _ => ws.length - (intOf i).toNat)
  case atStart => exact ⟨0, by omega, rfl, ⟨x, rfl, by show x = _; simp, hxl⟩, by simpa [unpackVals] using hr, hb⟩
  case round =>
    clear hr hz hb
    obtain ⟨k, hk, rfl, ⟨X, rfl, HXk, hXl⟩, hrow, hbel⟩ := hrel
    by_cases hlt : k < ws.length
    · obtain ⟨b, off, rfl, hcell⟩ := (hc.below hbel) k hlt
      obtain ⟨g0, g1, g2⟩ := HS.out k hlt
      have HT : Hid (unpackVals (ws.take (k + 1)) x = unpackVals (ws.take k) x ++ [((x / 2 ^ (ws.take k).sum.toNat % 2 ^ ws[k].toNat : Nat) : Int)]) := unpack_take ws x k hlt (fun k h => (HS.out k h).1)
      have HD : Hid (x / 2 ^ (ws.take (k + 1)).sum.toNat = X / 2 ^ ws[k].toNat) := by
        show _ = _
        rw [HXk.out, sum_take_succ ws k hlt, Int.toNat_add (sum_nonneg (fun k h => (HS.out k h).1) k hk) g0, Nat.pow_add, Nat.div_div_eq_div_mul]
      obtain ⟨V, hV⟩ : ∃ V, V = X % 2 ^ ws[k].toNat := ⟨_, rfl⟩
      obtain ⟨Y, hY⟩ : ∃ Y, Y = X / 2 ^ ws[k].toNat := ⟨_, rfl⟩
      have hYl : Y < 18446744073709551616 := by rw [hY]; exact Nat.lt_of_le_of_lt (Nat.div_le_self _ _) hXl
      obtain ⟨e1, e2⟩ := and_ones_i64 X ws[k] g0 g1 hXl
      have e3 := shr_val X ws[k]
      rw [← hV] at e1 e2
      rw [← hY] at e3
      have HV : Hid (V = X % 2 ^ ws[k].toNat) := hV
      have HY : Hid (Y = X / 2 ^ ws[k].toNat) := hY
      clear hV hY
      have hlr : (unpackVals (ws.take k) x).length = k := by rw [unpack_len]; simp; omega
      have hcB : wr.cell? ⟨w'.heap.size, k, none⟩ = some (.int .i64 0) := by
        rw [hrow.cell, List.getElem?_append_right (by rw [List.length_map, hlr]; exact Nat.le_refl _), List.length_map, hlr, Nat.sub_self, List.getElem?_replicate, if_pos (by omega)]
      have hfB : wr.frozen? ⟨w'.heap.size, k, none⟩ = false := hrow.frozen k
      have HR : Hid (RowAt (wr.setCell ⟨w'.heap.size, k, none⟩ (.int .i64 V)) w'.heap.size 3 ((unpackVals (ws.take (k + 1)) x).map (Value.int .i64) ++ List.replicate (ws.length - (k + 1)) (Value.int .i64 0))) := by
        have := hrow.set k (.int .i64 V)
        rw [row_step _ _ _ _ hlr hlt] at this
        show RowAt _ _ _ _
        rw [HT.out, ← HXk.out, ← HV.out]
        exact this
      have HB : Hid (Below w'.heap.size w' (wr.setCell ⟨w'.heap.size, k, none⟩ (.int .i64 V))) := hbel.setCell (Nat.le_refl _) _
      clear hlr hrow hbel
      go_wp2_with (go_at_call 31; refine (ones_any _ _ (by omega) (by omega)).mono ?_; rintro e wq ⟨rfl, rfl⟩)
      go_roundw
      case rel => exact ⟨k + 1, by omega, by go_num, ⟨Y, rfl, by show Y = _; rw [HD.out, HY.out], hYl⟩, HR.out, HB.out⟩
      case measure => simp [intOf]; omega
    · obtain rfl : k = ws.length := by omega
      go_wp2
      go_ret2
      refine ⟨rfl, ?_, hbel⟩
      apply IntsAt.of_row (t := 3)
      simpa using hrow

end Go.Proofs.Ytlpbpibjofepjaa
