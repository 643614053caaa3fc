/-
  The law BitsFields, walked: for every input it answers true.
-/
import Derived.Test.YtnhlafifmiiliaaDoorOwn
import Derived.Test.YtnhlafifmiiliaaDoorLBack
namespace Go.Proofs.YtnhlafifmiiliaaDoor
open Go.RowKit

/-! ### the arithmetic: one field's other value changes its bits alone -/
theorem xor_parts (k r t A B : Nat) (hr : r < 2 ^ k) (ht : t < 2 ^ k) : (r + 2 ^ k * A) ^^^ (t + 2 ^ k * B) = (r ^^^ t) + 2 ^ k * (A ^^^ B) := by
  apply Nat.eq_of_testBit_eq
  intro i
  have hrt : r ^^^ t < 2 ^ k := Nat.xor_lt_two_pow hr ht
  rw [Nat.add_comm r, Nat.add_comm t, Nat.add_comm (r ^^^ t), Nat.testBit_xor, Nat.testBit_two_pow_mul_add _ hr, Nat.testBit_two_pow_mul_add _ ht, Nat.testBit_two_pow_mul_add _ hrt]
  split <;> simp

theorem packVal_split : ∀ (ws vs : List Int) (w v : Int) (ws' vs' : List Int), ws.length = vs.length → (∀ k (h : k < ws.length), 0 ≤ ws[k]) →
    packVal (ws ++ w :: ws') (vs ++ v :: vs') = packVal ws vs + 2 ^ ws.sum.toNat * (v.toNat + 2 ^ w.toNat * packVal ws' vs')
  | [], [], w, v, ws', vs', _, _ => by simp [packVal]
  | [], _ :: _, _, _, _, _, h, _ => by simp at h
  | _ :: _, [], _, _, _, _, h, _ => by simp at h
  | a :: ws, b :: vs, w, v, ws', vs', h, hn => by
    have ih := packVal_split ws vs w v ws' vs' (by simpa using h) (fun k hk => by have := hn (k + 1) (by simp; omega); simpa using this)
    have h0 : 0 ≤ a := hn 0 (by simp)
    have h1 : 0 ≤ ws.sum := by
      have := sum_nonneg (l := ws) (fun k hk => by have := hn (k + 1) (by simp; omega); simpa using this) ws.length (Nat.le_refl _)
      simpa using this
    simp only [List.cons_append, packVal, List.sum_cons]
    rw [ih, Int.toNat_add h0 h1, Nat.pow_add, Nat.mul_add, Nat.mul_assoc]
    omega

theorem list_split {α} (l : List α) (k : Nat) (h : k < l.length) : l = l.take k ++ l[k] :: l.drop (k + 1) := by
  rw [List.getElem_cons_drop, List.take_append_drop]
theorem set_split {α} (l : List α) (k : Nat) (v : α) (h : k < l.length) : l.set k v = l.take k ++ v :: l.drop (k + 1) := by
  rw [List.set_eq_take_append_cons_drop, if_pos h]

theorem fields_xor (ws vs : List Int) (k : Nat) (n : Int) (hlen : ws.length = vs.length) (hs : SpanOk ws) (hf : Fit ws vs) (hf' : Fit ws (vs.set k n)) (hk : k < ws.length) (hk' : k < vs.length) :
    (packVal ws vs ^^^ packVal ws (vs.set k n)) = 2 ^ (ws.take k).sum.toNat * (vs[k].toNat ^^^ n.toNat) ∧ vs[k].toNat < 2 ^ ws[k].toNat ∧ n.toNat < 2 ^ ws[k].toNat ∧ 0 ≤ vs[k] ∧ 0 ≤ n := by
  obtain ⟨p1, p2⟩ := hf k hk hk'
  obtain ⟨q1, q2⟩ := hf' k hk (by simpa using hk')
  rw [List.getElem_set_self] at q1 q2
  rw [← cast_pow] at p2 q2
  have hp := pow_pos ws[k].toNat
  have h1 : vs[k].toNat < 2 ^ ws[k].toNat := by omega
  have h2 : n.toNat < 2 ^ ws[k].toNat := by omega
  refine ⟨?_, h1, h2, p1, q1⟩
  have hL := packVal_lt ws vs hlen (fun k h => (hs k h).1) k (by omega) (fun j h h' _ => hf j h h')
  have hn : ∀ j (h : j < (ws.take k).length), 0 ≤ (ws.take k)[j] := fun j hj => by
    have hj' : j < ws.length := by simp at hj; omega
    simpa using (hs j hj').1
  have hl : (ws.take k).length = (vs.take k).length := by simp; omega
  have e1 : packVal ws vs = packVal (ws.take k) (vs.take k) + 2 ^ (ws.take k).sum.toNat * (vs[k].toNat + 2 ^ ws[k].toNat * packVal (ws.drop (k + 1)) (vs.drop (k + 1))) := by
    conv => lhs; rw [list_split ws k hk, list_split vs k hk']
    exact packVal_split _ _ _ _ _ _ hl hn
  have e2 : packVal ws (vs.set k n) = packVal (ws.take k) (vs.take k) + 2 ^ (ws.take k).sum.toNat * (n.toNat + 2 ^ ws[k].toNat * packVal (ws.drop (k + 1)) (vs.drop (k + 1))) := by
    conv => lhs; rw [list_split ws k hk, set_split vs k n hk']
    exact packVal_split _ _ _ _ _ _ hl hn
  rw [e1, e2, xor_parts _ _ _ _ _ hL hL, Nat.xor_self, Nat.zero_add, xor_parts _ _ _ _ _ h1 h2, Nat.xor_self, Nat.mul_zero, Nat.add_zero]

theorem pack_some (a a' : Option Addr) (cap cap' n m : Nat) (ws vs : List Int) (w : World) (hn : n = ws.length) (hm : m = vs.length) (hl : ws.length ≤ 9223372036854775807) (hc : IntsAt w a ws) (hc' : IntsAt w a' vs) (hi : I64s vs) :
    Calls Tryd.prog 23 #[.slice a n cap, .slice a' m cap'] w fun e w' => (∃ y z : Int, e = .returned (.tuple #[.int .u64 y, .int .i64 z])) ∧ w' = w := by
  subst hn; subst hm
  by_cases h : ws.length = vs.length ∧ SpanOk ws ∧ Fit ws vs
  · refine (pack_yes a a' cap cap' ws vs w hl h.1 hc hc' hi h.2.1 h.2.2).mono ?_
    rintro e w' ⟨rfl, rfl⟩
    exact ⟨⟨_, _, rfl⟩, rfl⟩
  · refine (pack_no a a' cap cap' ws vs w hl hc hc' hi h).mono ?_
    rintro e w' ⟨rfl, rfl⟩
    exact ⟨⟨_, _, rfl⟩, rfl⟩

theorem fields_out (a a' : Option Addr) (cap cap' m n : Nat) (x y : Int) (w : World) (hT : Tab w) (hm : m ≤ 9223372036854775807) (h : 100 < m ∨ x < 0 ∨ (n : Int) ≤ x) :
    Calls Tryd.prog 9 #[.slice a m cap, .slice a' n cap', .int .i64 x, .int .i64 y] w fun e w' => e = .returned (.bool true) ∧ Below w.heap.size w w' := by
  by_cases h1 : 100 < m
  · go_enter Tryd.func9, Tryd.ntmps9
    go_wp2_with (go_at_call 11; refine (works_any _ hT).mono ?_; rintro e w1 ⟨rfl, hb⟩)
    go_ret
    exact ⟨rfl, hb⟩
  · by_cases h2 : x < 0
    · clear h
      go_enter Tryd.func9, Tryd.ntmps9
      go_wp2_with (go_at_call 11; refine (works_any _ hT).mono ?_; rintro e w1 ⟨rfl, hb⟩)
      go_ret
      exact ⟨rfl, hb⟩
    · have h3 : (n : Int) ≤ x := by omega
      clear h
      go_enter Tryd.func9, Tryd.ntmps9
      go_wp2_with (go_at_call 11; refine (works_any _ hT).mono ?_; rintro e w1 ⟨rfl, hb⟩)
      go_ret
      exact ⟨rfl, hb⟩

theorem I64s.set {l : List Int} (h : I64s l) (k : Nat) (n : Int) (hn : -9223372036854775808 ≤ n ∧ n ≤ 9223372036854775807) : I64s (l.set k n) := by
  intro i hi
  rw [List.getElem_set]
  split
  · exact hn
  · exact h i (by simpa using hi)

/-- The copy's one store: what it holds behind it. -/
theorem own_store {w : World} {B : Nat} {a : Option Addr} {n cap : Nat} {l : List Int} (h : w.ownsRow B 3 1 (.slice a n cap) n (l.map (Value.int .i64))) (k : Nat) (hk : k < l.length) (v : Int) :
    ∃ g, a = some ⟨g, 0, none⟩ ∧ B ≤ g ∧ w.cell? ⟨g, k, none⟩ = some (.int .i64 (l.getD k 0)) ∧ w.frozen? ⟨g, k, none⟩ = false ∧ IntsAt (w.setCell ⟨g, k, none⟩ (.int .i64 v)) (some ⟨g, 0, none⟩) (l.set k v) := by
  obtain ⟨hn, a', c', e, hI, _⟩ := own_shape h
  have hn' : n = l.length := hn
  rcases h.2 with ⟨e, h0⟩ | ⟨g, cap', cur, e, hg, hh, hc, hm, hs, ht⟩
  · omega
  · simp only [Value.slice.injEq] at e
    obtain ⟨rfl, -, rfl⟩ := e
    refine ⟨g, rfl, hg, ?_, h.frozenAt k, ?_⟩
    · rw [h.cellAt k (by omega)]; simp [hk]
    · have := (h.stored k (.int .i64 v)).1
      rw [← List.map_set] at this
      obtain ⟨_, a'', c'', e'', hI'', _⟩ := own_shape this
      simp only [Value.slice.injEq] at e''
      obtain ⟨rfl, -, -⟩ := e''
      exact hI''

theorem fields_vals (ws vs : List Int) (k : Nat) (n : Int) (Y Z : Nat) (hlen : ws.length = vs.length) (hs : SpanOk ws) (hf : Fit ws vs) (hf' : Fit ws (vs.set k n)) (hk : k < ws.length) (hk' : k < vs.length)
    (hY : Y = packVal ws vs) (hZ : Z = packVal ws (vs.set k n)) :
    ∃ (R V P : Nat) (β : Bool), R < 18446744073709551616 ∧ bits BinOp.xor IntKind.u64 (Y : Int) (Z : Int) = (R : Int) ∧ (R : Int) / 2 ^ (ws.take k).sum.toNat = (V : Int) ∧ IntKind.u64.wrap (↑V * 2 ^ (ws.take k).sum.toNat) = (R : Int) ∧
      IntKind.u64.wrap (2 ^ ws[k].toNat) = (P : Int) ∧ V < P ∧ ((Y : Int) == (Z : Int)) = β ∧ (n == vs[k]) = β := by
  obtain ⟨hx, h1, h2, h3, h4⟩ := fields_xor ws vs k n hlen hs hf hf' hk hk'
  have hb1 := (packVal_bound hs hlen hf).2
  have hb2 := (packVal_bound hs (by simpa using hlen) hf').2
  rw [← hY] at hb1
  rw [← hZ] at hb2
  rw [← hY, ← hZ] at hx
  have hR : Y ^^^ Z < 18446744073709551616 := Nat.xor_lt_two_pow (n := 64) hb1 hb2
  have hp := pow_pos (ws.take k).sum.toNat
  have hV : vs[k].toNat ^^^ n.toNat < 2 ^ ws[k].toNat := Nat.xor_lt_two_pow h1 h2
  obtain ⟨g0, g1, -⟩ := hs k hk
  have hP : 2 ^ ws[k].toNat ≤ 2 ^ 62 := pow_le (by omega)
  refine ⟨Y ^^^ Z, vs[k].toNat ^^^ n.toNat, 2 ^ ws[k].toNat, decide (n = vs[k]), hR, bits_xor_u64_nat _ _ hb1 hb2, ?_, ?_, ?_, hV, ?_, ?_⟩
  · rw [hx, ← cast_pow, ← Int.natCast_ediv, Nat.mul_div_cancel_left _ hp]
  · rw [IntKind.wrap_u64, ← cast_pow, ← Int.natCast_mul, Nat.mul_comm, ← hx]
    omega
  · rw [IntKind.wrap_u64, ← cast_pow]
    generalize 2 ^ ws[k].toNat = p at *
    omega
  · by_cases e : n = vs[k]
    · subst e
      rw [Nat.xor_self, Nat.mul_zero] at hx
      have : Y = Z := by
        have h := congrArg (· ^^^ Z) hx
        simpa [Nat.xor_assoc] using h
      simp [this]
    · have hne : Y ≠ Z := by
        intro h
        rw [h, Nat.xor_self] at hx
        have h0 : vs[k].toNat ^^^ n.toNat = 0 := by
          rcases Nat.mul_eq_zero.1 hx.symm with h | h
          · omega
          · exact h
        have : vs[k].toNat = n.toNat := by
          have h := congrArg (· ^^^ n.toNat) h0
          simpa [Nat.xor_assoc] using h
        exact e (by omega)
      simp [e]; omega
  · by_cases e : n = vs[k] <;> simp [e]

set_option maxHeartbeats 2000000 in
theorem fields_in (a a' : Option Addr) (cap cap' : Nat) (ws vs : List Int) (k : Nat) (n : Int) (w : World) (hT : Tab w) (hm : ws.length ≤ 100) (hv : vs.length * 8 ≤ 140737488351232) (hk' : k < vs.length)
    (hc : IntsAt w a ws) (hc' : IntsAt w a' vs) (hi : I64s vs) (hn : -9223372036854775808 ≤ n ∧ n ≤ 9223372036854775807) (hnil : a' = none → cap' = 0) :
    Calls Tryd.prog 9 #[.slice a ws.length cap, .slice a' vs.length cap', .int .i64 k, .int .i64 n] w fun e w' => e = .returned (.bool true) ∧ Below w.heap.size w w' := by
  have HN : Hid (a' = none → cap' = 0) := hnil
  clear hnil
  have hd1 : decide ((100 : Int) < (ws.length : Int)) = false := by simp; omega
  have hd2 : decide ((k : Int) < 0) = false := by simp
  have hd3 : decide ((vs.length : Int) ≤ (k : Int)) = false := by simp; omega
  have HI : Hid (I64s (vs.set k n)) := hi.set k n hn
  by_cases hP : ws.length = vs.length ∧ SpanOk ws ∧ Fit ws vs
  · obtain ⟨p1, p2, p3⟩ := hP
    obtain ⟨Y, hY⟩ : ∃ Y, Y = packVal ws vs := ⟨_, rfl⟩
    have HK : Hid (∀ w, IntsAt w a ws → IntsAt w a' vs → Calls Tryd.prog 23 #[.slice a ws.length cap, .slice a' vs.length cap'] w fun e w' => e = .returned (.tuple #[.int .u64 (Y : Int), .int .i64 0]) ∧ w' = w) :=
      fun w h1 h2 => by rw [hY]; exact pack_yes a a' cap cap' ws vs w (by omega) p1 h1 h2 hi p2 p3
    by_cases hP' : Fit ws (vs.set k n)
    · obtain ⟨Z, hZ⟩ : ∃ Z, Z = packVal ws (vs.set k n) := ⟨_, rfl⟩
      have HK2 : Hid (∀ w (u : Option Addr) (c : Nat), IntsAt w a ws → IntsAt w u (vs.set k n) → Calls Tryd.prog 23 #[.slice a ws.length cap, .slice u vs.length c] w fun e w' => e = .returned (.tuple #[.int .u64 (Z : Int), .int .i64 0]) ∧ w' = w) :=
        fun w u c h1 h2 => by rw [hZ]; exact pack_len a u cap c _ _ ws (vs.set k n) w rfl (by simp) (by omega) (by simpa using p1) h1 h2 HI.out p2 hP'
      have hk : k < ws.length := by omega
      have hsk := p2 k hk
      obtain ⟨g0, g1, g2⟩ := hsk
      have g3 := sum_nonneg (fun k h => (p2 k h).1) k (by omega)
      obtain ⟨R, V, P, β, hR, eX, eS, eB, eP, hVP, e1, e2⟩ := fields_vals ws vs k n Y Z p1 p2 p3 hP' hk hk' hY hZ
      have hRR : ((R : Int) == (R : Int)) = true := by simp
      have hββ : (β == β) = true := by simp
      have HS : Hid (SpanOk ws) := p2
      clear hi hY hZ p1 p2 p3 hP'
      have hks : k ≤ ws.length := by omega
      go_enter Tryd.func9, Tryd.ntmps9
      go_wp2_with fail
      refine (works_any _ hT).mono ?_
      rintro e w1 ⟨rfl, hb⟩
      have hc1 := hc.below hb
      have hc1' := hc'.below hb
      have hs1 := hb.size
      clear hc hc' hT
      go_wp2_with fail
      refine (HK.out _ hc1 hc1').mono ?_
      rintro e w1 ⟨rfl, rfl⟩
      have hB1 := Below.refl w1.heap.size w1
      go_wp2_with (at_builtin; refine wpList_append_on rfl (.tmp 41) (.tmp 42) rfl w1 w1.heap.size (.slice none 0 0) 0 [] vs vs vs.length _ _ _ rfl (own_nil _ _) rfl rfl HN.out hc1' rfl (by omega) (by omega) (Nat.le_refl _) hB1 ?_; intro a2 c2 w2 own2 i2 b2; obtain ⟨g, rfl, hg, hcell, hfrz, hst⟩ := own_store own2 k hk' n)
      have hB3 := b2.setCell (p := ⟨g, k, none⟩) hg (.int .i64 n)
      have hc2 := hc1.below hB3
      have hc2' := hc1'.below hB3
      have hBe : Below w.heap.size w _ := hb.trans (hB3.mono hs1)
      refine (HK2.out _ _ _ hc2 hst).mono ?_
      rintro e w3 ⟨rfl, hw3⟩
      rw [← hw3] at hc2 hc2' hBe
      clear hw3 hcell hfrz hst hB3 own2 i2 b2 hc1 hc1' hb hB1
      go_wp2
      go_loop [15, 16] (fun lo i => ∃ j : Nat, j ≤ k ∧ i = .int .i64 j ∧ lo = .int .i64 (ws.take j).sum) (fun _ i => k - (intOf i).toNat)
      case atStart => exact ⟨0, by omega, rfl, rfl⟩
      case round =>
        obtain ⟨j, hj, rfl, rfl⟩ := hrel
        by_cases hlt : j < k
        · have hjw : j < ws.length := by omega
          obtain ⟨b, off, rfl, hcj⟩ := hc2 j hjw
          obtain ⟨q0, q1, q2⟩ := HS.out j hjw
          have q3 := sum_nonneg (fun k h => (HS.out k h).1) j (by omega)
          have HT : Hid ((ws.take (j + 1)).sum = (ws.take j).sum + ws[j]) := sum_take_succ ws j hjw
          clear eX eS eB eP
          go_wp2
          go_round
          case rel => exact ⟨j + 1, by omega, by go_num, i64_congr HT.out.symm⟩
          case measure => simp [intOf]; omega
        · obtain rfl : j = k := by omega
          obtain ⟨b, off, rfl, hcj⟩ := hc2 j hk
          obtain ⟨b', off', rfl, hcj'⟩ := hc2' j hk'
          by_cases h62 : 62 ≤ ws[j]
          · go_wp2
            go_ret
            exact ⟨rfl, hBe⟩
          · have hlt' : (V : Int) < (P : Int) := by omega
            go_wp2
            go_ret
            exact ⟨rfl, hBe⟩
    · have HK2 : Hid (∀ w (u : Option Addr) (c : Nat), IntsAt w a ws → IntsAt w u (vs.set k n) → Calls Tryd.prog 23 #[.slice a ws.length cap, .slice u vs.length c] w fun e w' => e = .returned (.tuple #[.int .u64 0, .int .i64 1]) ∧ w' = w) :=
        fun w u c h1 h2 => by
          have := pack_no a u cap c ws (vs.set k n) w (by omega) h1 h2 HI.out (fun h => hP' h.2.2)
          rw [List.length_set] at this
          exact this
      clear hi hY p1 p2 p3 hP'
      go_enter Tryd.func9, Tryd.ntmps9
      go_wp2_with fail
      refine (works_any _ hT).mono ?_
      rintro e w1 ⟨rfl, hb⟩
      have hc1 := hc.below hb
      have hc1' := hc'.below hb
      have hs1 := hb.size
      clear hc hc' hT
      go_wp2_with fail
      refine (HK.out _ hc1 hc1').mono ?_
      rintro e w1 ⟨rfl, rfl⟩
      have hB1 := Below.refl w1.heap.size w1
      go_wp2_with (at_builtin; refine wpList_append_on rfl (.tmp 41) (.tmp 42) rfl w1 w1.heap.size (.slice none 0 0) 0 [] vs vs vs.length _ _ _ rfl (own_nil _ _) rfl rfl HN.out hc1' rfl (by omega) (by omega) (Nat.le_refl _) hB1 ?_; intro a2 c2 w2 own2 i2 b2; obtain ⟨g, rfl, hg, hcell, hfrz, hst⟩ := own_store own2 k hk' n)
      have hB3 := b2.setCell (p := ⟨g, k, none⟩) hg (.int .i64 n)
      have hc2 := hc1.below hB3
      have hBe : Below w.heap.size w _ := hb.trans (hB3.mono hs1)
      refine (HK2.out _ _ _ hc2 hst).mono ?_
      rintro e w3 ⟨rfl, hw3⟩
      rw [← hw3] at hBe
      clear hw3 hcell hfrz hst hB3 hc2 own2 i2 b2 hc1 hc1' hb hB1
      go_wp2_with fail
      go_ret
      exact ⟨rfl, hBe⟩
  · have HK : Hid (∀ w, IntsAt w a ws → IntsAt w a' vs → Calls Tryd.prog 23 #[.slice a ws.length cap, .slice a' vs.length cap'] w fun e w' => e = .returned (.tuple #[.int .u64 0, .int .i64 1]) ∧ w' = w) :=
      fun w h1 h2 => pack_no a a' cap cap' ws vs w (by omega) h1 h2 hi hP
    clear hP hi
    go_enter Tryd.func9, Tryd.ntmps9
    go_wp2_with fail
    refine (works_any _ hT).mono ?_
    rintro e w1 ⟨rfl, hb⟩
    have hc1 := hc.below hb
    have hc1' := hc'.below hb
    have hs1 := hb.size
    clear hc hc' hT
    go_wp2_with fail
    refine (HK.out _ hc1 hc1').mono ?_
    rintro e w1 ⟨rfl, rfl⟩
    have hB1 := Below.refl w1.heap.size w1
    go_wp2_with (at_builtin; refine wpList_append_on rfl (.tmp 41) (.tmp 42) rfl w1 w1.heap.size (.slice none 0 0) 0 [] vs vs vs.length _ _ _ rfl (own_nil _ _) rfl rfl HN.out hc1' rfl (by omega) (by omega) (Nat.le_refl _) hB1 ?_; intro a2 c2 w2 own2 i2 b2; obtain ⟨g, rfl, hg, hcell, hfrz, hst⟩ := own_store own2 k hk' n)
    have hB3 := b2.setCell (p := ⟨g, k, none⟩) hg (.int .i64 n)
    have hc2 := hc1.below hB3
    have hBe : Below w.heap.size w _ := hb.trans (hB3.mono hs1)
    refine (pack_some a _ cap c2 _ _ ws (vs.set k n) _ rfl (by simp) (by omega) hc2 hst HI.out).mono ?_
    rintro e w3 ⟨⟨y, z, rfl⟩, hw3⟩
    rw [← hw3] at hBe
    clear hw3 hcell hfrz hst hB3 hc2 own2 i2 b2 hc1 hc1' hb hB1
    go_wp2_with fail
    go_ret
    exact ⟨rfl, hBe⟩

theorem fields_walk (a0 : Option Addr) (cap0 : Nat) (l0 : List Int) (a1 : Option Addr) (cap1 : Nat) (l1 : List Int) (x2 x3 : Int) (w : World) (hT : Tab w)
    (t0 : IntsAt w a0 l0) (_ : I64s l0) (n0 : l0.length * 8 ≤ 140737488351232) (_ : a0 = none → cap0 = 0) (t1 : IntsAt w a1 l1) (i1 : I64s l1) (n1 : l1.length * 8 ≤ 140737488351232) (z1 : a1 = none → cap1 = 0)
    (_ : -9223372036854775808 ≤ x2 ∧ x2 ≤ 9223372036854775807) (w3 : -9223372036854775808 ≤ x3 ∧ x3 ≤ 9223372036854775807) :
    Calls Tryd.prog 9 #[.slice a0 l0.length cap0, .slice a1 l1.length cap1, .int .i64 x2, .int .i64 x3] w fun e w' => e = .returned (.bool true) ∧ Below w.heap.size w w' := by
  by_cases h : 100 < l0.length ∨ x2 < 0 ∨ (l1.length : Int) ≤ x2
  · exact fields_out a0 a1 cap0 cap1 _ _ x2 x3 w hT (by omega) h
  · obtain ⟨k, rfl⟩ := Int.eq_ofNat_of_zero_le (show 0 ≤ x2 by omega)
    exact fields_in a0 a1 cap0 cap1 l0 l1 k x3 w hT (by omega) n1 (by omega) t0 t1 i1 w3 z1

end Go.Proofs.YtnhlafifmiiliaaDoor
