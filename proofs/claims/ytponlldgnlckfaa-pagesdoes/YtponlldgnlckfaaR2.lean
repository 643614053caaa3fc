/-
  The contracts of the document's Of and At.
-/
import Derived.Test.YtponlldgnlckfaaEq
namespace Go.Proofs.Ytponlldgnlckfaa
open Go.RowKit

theorem hid {p : Prop} (h : p) : Hid p := h
theorem nc2 (x : Pg) : (nc x)[0]? = some (.int .i64 x.kf) ∧ (nc x)[1]? = some (.int .i64 x.ki) ∧ (nc x)[2]? = some (.int .i64 x.pl) ∧ (nc x)[3]? = some (.int .i64 x.at') ∧ (nc x)[4]? = some (.int .i64 x.ow) ∧ (nc x)[5]? = some (.int .i64 x.rf) ∧ (nc x)[6]? = some (.int .i64 0) ∧ (nc x)[7]? = some (.bool false) ∧ (nc x)[8]? = some (.bool x.dr) ∧ (nc x)[9]? = some (.bool x.gn) := ⟨rfl, rfl, rfl, rfl, rfl, rfl, rfl, rfl, rfl, rfl⟩
/-- The table, and a key in a block of its own. -/
structure Kx (B : Nat) (w wr : World) (r q : Nat) (L : List Pg) (f i : Int) : Prop where
  ref : RefIs B wr r L
  c0 : wr.cell? ⟨q, 0, none⟩ = some (.int .i64 f)
  c1 : wr.cell? ⟨q, 1, none⟩ = some (.int .i64 i)
  bel : Below w.heap.size w wr
theorem Kx.drewN {B : Nat} {w wr : World} {r q : Nat} {L : List Pg} {f i : Int} (h : Kx B w wr r q L f i) (n : Nat) : Kx B w (wr.drewN n) r q L f i := ⟨h.ref.drewN n, h.c0, h.c1, below_drawn h.bel n⟩
theorem kx_new {B : Nat} {w : World} {r : Nat} {L : List Pg} (h : RefIs B w r L) (f i : Int) : Kx B w (w.alloc (.cells #[.int .i64 f, .int .i64 i] 24)) r w.heap.size L f i := by
  have hb0 := below_alloc w (.cells #[.int .i64 f, .int .i64 i] 24)
  have hrow := RowAt.new w #[.int .i64 f, .int .i64 i] 24
  exact ⟨h.below hb0, by rw [hrow.cell]; rfl, by rw [hrow.cell]; rfl, hb0⟩

set_option maxRecDepth 100000 in
set_option maxHeartbeats 4000000 in
theorem rof (B r : Nat) (L : List Pg) (f i : Int) (w : World) (h : RefIs B w r L) (hL : L.length < 1000000) :
    Calls Try.prog 22 #[.pointer (some ⟨r, 0, none⟩), .agg #[.int .i64 f, .int .i64 i]] w fun e w' => e = .returned (.int .i64 (ofL L f i)) ∧ Below w.heap.size w w' := by
  have HK := hid (kx_new h f i)
  have hgt := guard24
  have hqq := eq24
  obtain ⟨q, hq⟩ : ∃ q, q = w.heap.size := ⟨_, rfl⟩
  rw [← hq] at HK
  by_cases hf : 0 ≤ f
  · have hd : decide (0 ≤ f) = true := decide_eq_true hf
    have HO : Hid (ofL L f i = fx (keyP f i) L) := by show _ = _; unfold ofL; rw [if_pos hf]
    clear h hf
    go_enter Try.func22, Try.ntmps22
    go_wp2_with fail
    rw [← hq]
    clear hq
    go_loopw [5] (fun s5 wr => ∃ k : Nat, k ≤ L.length ∧ s5 = .int .i64 k ∧ (∀ j, j < k → keyP f i (pg L j) = false) ∧ Kx B w wr r q L f i) (fun s5 _ => L.length - (intOf s5).toNat)
    case atStart => exact ⟨0, by omega, rfl, fun j hj => by omega, HK.out⟩
    case round =>
      clear HK
      obtain ⟨k, hk, rfl, hs, hX⟩ := hrel
      have HS : Hid (∀ j, j < k → keyP f i (pg L j) = false) := hs
      clear hs
      obtain ⟨a, cap, hc, hat, -, -⟩ := hX.ref.open
      have c0 := hX.c0
      have c1 := hX.c1
      have HX := hid hX
      by_cases hkl : k < L.length
      · have hd2 : decide ((k : Int) < (L.length : Int)) = true := by simp; omega
        obtain ⟨g, rfl, hcell⟩ := hat k hkl
        have k0 := hcell 0 (by omega)
        have k1 := hcell 1 (by omega)
        rw [(nc2 _).1] at k0
        rw [(nc2 _).2.1] at k1
        rw [Nat.add_zero] at k0
        have HH : Hid (∀ n, Calls Try.prog 35 #[.pointer (some ⟨r, 0, none⟩), .int .i64 k] (wr.drewN n) fun e w' => e = .returned (.bool (has L k)) ∧ w' = wr.drewN n) := fun n => rhas B r L k _ (hX.ref.drewN n)
        have HP : Hid (keyP f i (pg L k) = (has L k && ((pg L k).kf == f && (pg L k).ki == i))) := by
          have : has L k = !(pg L k).gn := by unfold has; simp [hkl]
          show _ = _
          rw [this]; rfl
        obtain ⟨x, hx⟩ : ∃ x, x = (pg L k).kf := ⟨_, rfl⟩
        obtain ⟨y, hy⟩ : ∃ y, y = (pg L k).ki := ⟨_, rfl⟩
        obtain ⟨b, hb⟩ : ∃ b, b = has L k := ⟨_, rfl⟩
        rw [← hx] at k0 HP
        rw [← hy] at k1 HP
        rw [← hb] at HH HP
        clear hx hy hb hat hcell hX
        cases b with
        | false =>
          go_wp2_with fail
          go_quiet (first | (go_at_call 35; exact (HH.out _).mono fun e w' h => ⟨h.1, _, h.2⟩))
          go_wp2_with fail
          refine ⟨⟨k + 1, by omega, by go_num, fun j hj => ?_, HX.out.drewN _⟩, by simp [intOf]; omega⟩
          by_cases e : j = k
          · subst e; rw [HP.out]; rfl
          · exact HS.out j (by omega)
        | true =>
          cases he : (x == f && y == i) with
          | false =>
            rw [he] at HP
            have hqq2 := fun w => eq24 x y f i w
            rw [he] at hqq2
            clear hqq
            go_wp2_with fail
            go_quiet (first | (go_at_call 35; exact (HH.out _).mono fun e w' h => ⟨h.1, _, h.2⟩))
            go_wp2_with fail
            refine ⟨⟨k + 1, by omega, by go_num, fun j hj => ?_, HX.out.drewN _⟩, by simp [intOf]; omega⟩
            by_cases e : j = k
            · subst e; rw [HP.out]; rfl
            · exact HS.out j (by omega)
          | true =>
            rw [he] at HP
            have hqq2 := fun w => eq24 x y f i w
            rw [he] at hqq2
            clear hqq
            go_wp2_with fail
            go_quiet (first | (go_at_call 35; exact (HH.out _).mono fun e w' h => ⟨h.1, _, h.2⟩))
            go_wp2_with fail
            go_ret
            have e := fx_first hkl HP.out HS.out
            refine ⟨?_, (HX.out.drewN _).bel⟩
            rw [HO.out, e]
            rfl
      · obtain rfl : k = L.length := by omega
        have hd2 : decide ((L.length : Int) < (L.length : Int)) = false := by simp
        clear hX hat
        go_wp2_with fail
        go_ret
        refine ⟨?_, HX.out.bel⟩
        rw [HO.out, fx_none HS.out]
        rfl
  · have hd : decide (0 ≤ f) = false := decide_eq_false hf
    have HO : Hid (ofL L f i = -1) := by show _ = _; unfold ofL; rw [if_neg hf]
    obtain ⟨a, cap, hc, -, -, -⟩ := HK.out.ref.open
    have c0 := HK.out.c0
    obtain ⟨w0, hw0⟩ : ∃ w0, w0 = w.alloc (.cells #[.int .i64 f, .int .i64 i] 24) := ⟨_, rfl⟩
    rw [← hw0] at HK hc c0
    have HW := hid hw0
    clear h hf hqq
    go_enter Try.func22, Try.ntmps22
    go_wp2_with fail
    rw [← hq, ← HW.out]
    clear hq hw0 HW
    go_loopw [5] (fun s5 wr => s5 = .int .i64 0 ∧ wr = w0) (fun s5 _ => 1 - (intOf s5).toNat)
    case atStart => exact ⟨rfl, rfl⟩
    case round =>
      obtain ⟨rfl, rfl⟩ := hrel
      by_cases hl : 0 < L.length
      · have hd2 : decide ((0 : Int) < (L.length : Int)) = true := by simp; omega
        go_wp2_with fail
        go_ret
        exact ⟨by rw [HO.out]; rfl, HK.out.bel⟩
      · have hd2 : decide ((0 : Int) < (L.length : Int)) = false := decide_eq_false (by omega)
        go_wp2_with fail
        go_ret
        exact ⟨by rw [HO.out]; rfl, HK.out.bel⟩

set_option maxRecDepth 100000 in
set_option maxHeartbeats 4000000 in
theorem rat (B r : Nat) (L : List Pg) (p b : Int) (w : World) (h : RefIs B w r L) (hL : L.length < 1000000) :
    Calls Try.prog 24 #[.pointer (some ⟨r, 0, none⟩), .int .i64 p, .int .i64 b] w fun e w' => e = .returned (.int .i64 (atL L p b)) ∧ w' = w := by
  have HR := hid h
  obtain ⟨a, cap, hc, hat, -, -⟩ := h.open
  have HAt := hid hat
  clear hat
  by_cases hp : p = 0
  · have hd : (p != 0) = false := by simp [hp]
    have HO : Hid (atL L p b = -1) := by show _ = _; unfold atL; rw [if_pos hp]
    clear hp h
    go_enter Try.func24, Try.ntmps24
    go_wp2_with fail
    go_loopw [7] (fun s7 wr => s7 = .int .i64 0 ∧ wr = w) (fun s7 _ => 1 - (intOf s7).toNat)
    case atStart => exact ⟨rfl, rfl⟩
    case round =>
      obtain ⟨rfl, rfl⟩ := hrel
      by_cases hl : 0 < L.length
      · have hd2 : decide ((0 : Int) < (L.length : Int)) = true := by simp; omega
        go_wp2_with fail
        go_ret
        exact ⟨by rw [HO.out]; rfl, rfl⟩
      · have hd2 : decide ((0 : Int) < (L.length : Int)) = false := decide_eq_false (by omega)
        go_wp2_with fail
        go_ret
        exact ⟨by rw [HO.out]; rfl, rfl⟩
  · have hd : (p != 0) = true := by simpa using hp
    have HO : Hid (atL L p b = fx (spotP p b) L) := by show _ = _; unfold atL; rw [if_neg hp]
    clear hp h
    go_enter Try.func24, Try.ntmps24
    go_wp2_with fail
    go_loopw [7] (fun s7 wr => ∃ k : Nat, k ≤ L.length ∧ s7 = .int .i64 k ∧ (∀ j, j < k → spotP p b (pg L j) = false) ∧ wr = w) (fun s7 _ => L.length - (intOf s7).toNat)
    case atStart => exact ⟨0, by omega, rfl, fun j hj => by omega, rfl⟩
    case round =>
      obtain ⟨k, hk, rfl, hs, rfl⟩ := hrel
      have HS : Hid (∀ j, j < k → spotP p b (pg L j) = false) := hs
      clear hs
      by_cases hkl : k < L.length
      · have hd2 : decide ((k : Int) < (L.length : Int)) = true := by simp; omega
        obtain ⟨g, rfl, hcell⟩ := HAt.out k hkl
        have k2 := hcell 2 (by omega)
        have k3 := hcell 3 (by omega)
        rw [(nc2 _).2.2.1] at k2
        rw [(nc2 _).2.2.2.1] at k3
        have HH := hid (rhas B r L k _ HR.out)
        have HP : Hid (spotP p b (pg L k) = (has L k && ((pg L k).pl == p && (pg L k).at' == b))) := by
          have : has L k = !(pg L k).gn := by unfold has; simp [hkl]
          show _ = _
          rw [this]; rfl
        obtain ⟨x, hx⟩ : ∃ x, x = (pg L k).pl := ⟨_, rfl⟩
        obtain ⟨y, hy⟩ : ∃ y, y = (pg L k).at' := ⟨_, rfl⟩
        obtain ⟨t, ht⟩ : ∃ t, t = has L k := ⟨_, rfl⟩
        rw [← hx] at k2 HP
        rw [← hy] at k3 HP
        rw [← ht] at HH HP
        clear hx hy ht hcell HAt
        have next : spotP p b (pg L k) = false → ∀ j, j < k + 1 → spotP p b (pg L j) = false := fun h j hj => by
          by_cases e : j = k
          · subst e; exact h
          · exact HS.out j (by omega)
        have HN := hid next
        clear next
        cases t with
        | false =>
          go_wp2_with fail
          refine HH.out.mono ?_
          rintro e w2 ⟨rfl, rfl⟩
          go_wp2_with fail
          exact ⟨⟨k + 1, by omega, by go_num, HN.out (by rw [HP.out]; rfl), trivial⟩, by simp [intOf]; omega⟩
        | true =>
          cases e1 : (x == p) with
          | false =>
            rw [e1] at HP
            go_wp2_with fail
            refine HH.out.mono ?_
            rintro e w2 ⟨rfl, rfl⟩
            go_wp2_with fail
            exact ⟨⟨k + 1, by omega, by go_num, HN.out (by rw [HP.out]; rfl), trivial⟩, by simp [intOf]; omega⟩
          | true =>
            cases e2 : (y == b) with
            | false =>
              rw [e1, e2] at HP
              go_wp2_with fail
              refine HH.out.mono ?_
              rintro e w2 ⟨rfl, rfl⟩
              go_wp2_with fail
              exact ⟨⟨k + 1, by omega, by go_num, HN.out (by rw [HP.out]; rfl), trivial⟩, by simp [intOf]; omega⟩
            | true =>
              rw [e1, e2] at HP
              have HE := hid (fx_first hkl HP.out HS.out)
              go_wp2_with fail
              refine HH.out.mono ?_
              rintro e w2 ⟨rfl, rfl⟩
              go_wp2_with fail
              go_ret
              exact ⟨by rw [HO.out, HE.out]; rfl, rfl⟩
      · obtain rfl : k = L.length := by omega
        have hd2 : decide ((L.length : Int) < (L.length : Int)) = false := by simp
        go_wp2_with fail
        go_ret
        exact ⟨by rw [HO.out, fx_none HS.out]; rfl, rfl⟩
end Go.Proofs.Ytponlldgnlckfaa
