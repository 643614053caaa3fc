/-
  Contracts of package bytes: has, inPage, Len, Get, Put, Read.
-/
import Derived.Test.YtidjbkjbfblknaaMem
import Derived.Test.YtidjbkjbfblknaaRows
namespace Go.Proofs.Ytidjbkjbfblknaa
open Go.RowKit

/-- A store at block s, its pages at block p: n pages, their bytes in a row. -/
structure StoreIs (w : World) (s p n : Nat) (L : List UInt8) : Prop where
  h : RowAt w s 50 [.slice (some ⟨p, 0, none⟩) n n]
  c : RowAt w p 53 (bc L)
  len : L.length = n * 16
  le : n ≤ 1024
  ne : s ≠ p
theorem StoreIs.cell {w : World} {s p n : Nat} {L : List UInt8} (h : StoreIs w s p n L) : w.cell? ⟨s, 0, none⟩ = some (.slice (some ⟨p, 0, none⟩) n n) := by
  rw [h.h.cell]; rfl
theorem StoreIs.drewN {w : World} {s p n : Nat} {L : List UInt8} (h : StoreIs w s p n L) (m : Nat) : StoreIs (w.drewN m) s p n L := ⟨h.h.drewN m, h.c.drewN m, h.len, h.le, h.ne⟩
theorem StoreIs.apart {w w' : World} {s p n q : Nat} {L : List UInt8} (h : StoreIs w s p n L) (ha : Apart q w w') (h1 : s ≠ q) (h2 : p ≠ q) : StoreIs w' s p n L := ⟨h.h.apart ha h1, h.c.apart ha h2, h.len, h.le, h.ne⟩
theorem StoreIs.below {B : Nat} {w w' : World} {s p n : Nat} {L : List UInt8} (h : StoreIs w s p n L) (hb : Below B w w') (h1 : s < B) (h2 : p < B) : StoreIs w' s p n L := ⟨h.h.below hb h1, h.c.below hb h2, h.len, h.le, h.ne⟩
theorem StoreIs.lt {w : World} {s p n : Nat} {L : List UInt8} (h : StoreIs w s p n L) : s < w.heap.size ∧ p < w.heap.size := ⟨h.h.lt, h.c.lt⟩
theorem StoreIs.at {w : World} {s p n : Nat} {L : List UInt8} (h : StoreIs w s p n L) (i : Nat) (hi : i < L.length) : w.cell? ⟨p, i, none⟩ = some (.int .u8 (L[i].toNat : Int)) := by
  rw [h.c.cell]; exact bc_get L i hi
theorem StoreIs.range {w : World} {s p n : Nat} {L : List UInt8} (h : StoreIs w s p n L) (k : Nat) : w.rangeAt p (k * 16) (bc ((L.drop (k * 16)).take 16)) := by
  intro j v hv
  rw [h.c.cell]
  simp only [bc, List.map_take, List.map_drop, List.getElem?_take, List.getElem?_drop] at hv
  split at hv
  · exact hv
  · cases hv

/-- Is there such a page? -/
def hasP (n : Nat) (i : Int) : Bool := decide (0 ≤ i) && decide (i < (n : Int))
theorem hasP_nat (n k : Nat) : hasP n (k : Int) = decide (k < n) := by simp [hasP]
theorem hasP_true {n : Nat} {i : Int} (h : hasP n i = true) : ∃ k : Nat, i = k ∧ k < n := by
  simp [hasP] at h
  exact ⟨i.toNat, by omega, by omega⟩
theorem hasP_false {n : Nat} {i : Int} (h : hasP n i = false) : ¬ (0 ≤ i ∧ i < n) := by
  simp [hasP] at h
  omega

theorem shas (s p n : Nat) (L : List UInt8) (i : Int) (w : World) (h : StoreIs w s p n L) :
    Calls Try.prog 25 #[.pointer (some ⟨s, 0, none⟩), .int .i64 i] w fun e w' => e = .returned (.bool (hasP n i)) ∧ w' = w := by
  have hc := h.cell
  by_cases h0 : 0 ≤ i
  · go_enter Try.func25, Try.ntmps25
    go_wp2
    go_ret
    exact ⟨by simp [hasP, h0], rfl⟩
  · go_enter Try.func25, Try.ntmps25
    go_wp2
    go_ret
    exact ⟨by simp [hasP]; omega, rfl⟩

theorem sinp (i : Int) (w : World) :
    Calls Try.prog 26 #[.int .i64 i] w fun e w' => e = .returned (.bool (hasP 16 i)) ∧ w' = w := by
  by_cases h0 : 0 ≤ i
  · go_enter Try.func26, Try.ntmps26
    go_wp2
    go_ret
    exact ⟨by simp [hasP, h0], rfl⟩
  · go_enter Try.func26, Try.ntmps26
    go_wp2
    go_ret
    exact ⟨by simp [hasP]; omega, rfl⟩

theorem slen (s p n : Nat) (L : List UInt8) (w : World) (h : StoreIs w s p n L) :
    Calls Try.prog 19 #[.pointer (some ⟨s, 0, none⟩)] w fun e w' => e = .returned (.int .i64 n) ∧ w' = w := by
  have hc := h.cell
  go_enter Try.func19, Try.ntmps19
  go_wp2
  go_ret
  exact ⟨rfl, rfl⟩

/-- What Get answers. -/
def getE (n : Nat) (i at_ : Int) : Int := if hasP n i && hasP 16 at_ then 0 else 1
def getB (n : Nat) (L : List UInt8) (i at_ : Int) : Int := if hasP n i && hasP 16 at_ then ((L.getD (i.toNat * 16 + at_.toNat) 0).toNat : Int) else 0

theorem sget (s p n : Nat) (L : List UInt8) (i at_ : Int) (w : World) (h : StoreIs w s p n L) :
    Calls Try.prog 17 #[.pointer (some ⟨s, 0, none⟩), .int .i64 i, .int .i64 at_] w fun e w' => e = .returned (.tuple #[.int .u8 (getB n L i at_), .int .i64 (getE n i at_)]) ∧ w' = w := by
  have hc := h.cell
  have hle := h.le
  cases h1 : hasP n i with
  | false =>
    have HB : Hid (getB n L i at_ = 0) := by show _ = _; simp [getB, h1]
    have HE : Hid (getE n i at_ = 1) := by show _ = _; simp [getE, h1]
    have H1 : Hid (hasP n i = false) := h1
    clear h1
    go_enter Try.func17, Try.ntmps17
    go_wp2_with fail
    refine (shas _ _ n L i _ h).mono ?_
    rintro e w' ⟨rfl, rfl⟩
    rw [H1.out]
    go_wp2_with fail
    go_ret2
    exact ⟨by rw [HB.out, HE.out]; rfl, rfl⟩
  | true =>
    have H1 : Hid (hasP n i = true) := h1
    cases h2 : hasP 16 at_ with
    | false =>
      have HB : Hid (getB n L i at_ = 0) := by show _ = _; simp [getB, h2]
      have HE : Hid (getE n i at_ = 1) := by show _ = _; simp [getE, h2]
      have H2 : Hid (hasP 16 at_ = false) := h2
      clear h1 h2
      go_enter Try.func17, Try.ntmps17
      go_wp2_with fail
      refine (shas _ _ n L i _ h).mono ?_
      rintro e w' ⟨rfl, rfl⟩
      rw [H1.out]
      go_wp2_with fail
      refine (sinp at_ _).mono ?_
      rintro e w' ⟨rfl, rfl⟩
      rw [H2.out]
      go_wp2_with fail
      go_ret2
      exact ⟨by rw [HB.out, HE.out]; rfl, rfl⟩
    | true =>
      have H2 : Hid (hasP 16 at_ = true) := h2
      obtain ⟨k, rfl, hk⟩ := hasP_true h1
      obtain ⟨j, rfl, hj⟩ := hasP_true h2
      have hl : k * 16 + j < L.length := by rw [h.len]; omega
      have hat := h.at (k * 16 + j) hl
      obtain ⟨x, hx⟩ : ∃ x, x = (L[k * 16 + j].toNat : Int) := ⟨_, rfl⟩
      rw [← hx] at hat
      have HB : Hid (getB n L k j = x) := by show _ = _; simp [getB, h1, h2, hx, hl]
      have HE : Hid (getE n k j = 0) := by show _ = _; simp [getE, h1, h2]
      clear h1 h2 hx
      go_enter Try.func17, Try.ntmps17
      go_wp2_with fail
      refine (shas _ _ n L k _ h).mono ?_
      rintro e w' ⟨rfl, rfl⟩
      rw [H1.out]
      go_wp2_with fail
      refine (sinp j _).mono ?_
      rintro e w' ⟨rfl, rfl⟩
      rw [H2.out]
      go_wp2_with fail
      go_ret2
      exact ⟨by rw [HB.out, HE.out]; rfl, rfl⟩

/-- What Put leaves. -/
def putL (n : Nat) (L : List UInt8) (i at_ : Int) (b : UInt8) : List UInt8 := if hasP n i && hasP 16 at_ then L.set (i.toNat * 16 + at_.toNat) b else L
theorem putL_len (n : Nat) (L : List UInt8) (i at_ : Int) (b : UInt8) : (putL n L i at_ b).length = L.length := by unfold putL; split <;> simp

theorem sput (s p n : Nat) (L : List UInt8) (i at_ : Int) (b : UInt8) (w : World) (h : StoreIs w s p n L) :
    Calls Try.prog 21 #[.pointer (some ⟨s, 0, none⟩), .int .i64 i, .int .i64 at_, bv b] w fun e w' => e = .returned (.int .i64 (getE n i at_)) ∧ StoreIs w' s p n (putL n L i at_ b) ∧ Apart p w w' := by
  have hc := h.cell
  have hle := h.le
  cases h1 : hasP n i with
  | false =>
    have HB : Hid (putL n L i at_ b = L) := by show _ = _; simp [putL, h1]
    have HE : Hid (getE n i at_ = 1) := by show _ = _; simp [getE, h1]
    have H1 : Hid (hasP n i = false) := h1
    clear h1
    go_enter Try.func21, Try.ntmps21
    go_wp2_with fail
    refine (shas _ _ n L i _ h).mono ?_
    rintro e w' ⟨rfl, rfl⟩
    rw [H1.out]
    go_wp2_with fail
    go_ret
    exact ⟨by rw [HE.out]; rfl, by rw [HB.out]; exact h, Apart.refl _ _⟩
  | true =>
    have H1 : Hid (hasP n i = true) := h1
    cases h2 : hasP 16 at_ with
    | false =>
      have HB : Hid (putL n L i at_ b = L) := by show _ = _; simp [putL, h2]
      have HE : Hid (getE n i at_ = 1) := by show _ = _; simp [getE, h2]
      have H2 : Hid (hasP 16 at_ = false) := h2
      clear h1 h2
      go_enter Try.func21, Try.ntmps21
      go_wp2_with fail
      refine (shas _ _ n L i _ h).mono ?_
      rintro e w' ⟨rfl, rfl⟩
      rw [H1.out]
      go_wp2_with fail
      refine (sinp at_ _).mono ?_
      rintro e w' ⟨rfl, rfl⟩
      rw [H2.out]
      go_wp2_with fail
      go_ret
      exact ⟨by rw [HE.out]; rfl, by rw [HB.out]; exact h, Apart.refl _ _⟩
    | true =>
      have H2 : Hid (hasP 16 at_ = true) := h2
      obtain ⟨k, rfl, hk⟩ := hasP_true h1
      obtain ⟨j, rfl, hj⟩ := hasP_true h2
      have hl : k * 16 + j < L.length := by rw [h.len]; omega
      have hat := h.at (k * 16 + j) hl
      have hfr := h.c.frozen (k * 16 + j)
      obtain ⟨x, hx⟩ : ∃ x, x = (L[k * 16 + j].toNat : Int) := ⟨_, rfl⟩
      rw [← hx] at hat
      have HB : Hid (putL n L k j b = L.set (k * 16 + j) b) := by show _ = _; simp [putL, h1, h2]
      have HE : Hid (getE n k j = 0) := by show _ = _; simp [getE, h1, h2]
      clear h1 h2 hx
      unfold bv
      go_enter Try.func21, Try.ntmps21
      go_wp2_with fail
      refine (shas _ _ n L k _ h).mono ?_
      rintro e w' ⟨rfl, rfl⟩
      rw [H1.out]
      go_wp2_with fail
      refine (sinp j _).mono ?_
      rintro e w' ⟨rfl, rfl⟩
      rw [H2.out]
      go_wp2_with fail
      go_ret
      refine ⟨by rw [HE.out]; rfl, ?_, Apart.ofBut (But.setCell _ _ _ _)⟩
      rw [HB.out]
      have hc1 := h.c.set (k * 16 + j) (bv b)
      rw [bc_set] at hc1
      exact ⟨h.h.other h.ne _ _, hc1, by simpa using h.len, h.le, h.ne⟩

/-- What Read answers. -/
def readE (n : Nat) (i : Int) : Int := if hasP n i then 0 else 1
def pgOf (L : List UInt8) (k : Nat) : List UInt8 := (L.drop (k * 16)).take 16
def readT (n : Nat) (L : List UInt8) (i : Int) : ByteArray := if hasP n i then ⟨(pgOf L i.toNat).toArray⟩ else ByteArray.empty

theorem pgOf_len {L : List UInt8} {n k : Nat} (h : L.length = n * 16) (hk : k < n) : (pgOf L k).length = 16 := by
  simp [pgOf]; omega

theorem sread (s p n : Nat) (L : List UInt8) (i : Int) (w : World) (h : StoreIs w s p n L) :
    Calls Try.prog 15 #[.pointer (some ⟨s, 0, none⟩), .int .i64 i] w fun e w' => e = .returned (.tuple #[.string (readT n L i), .int .i64 (readE n i)]) ∧ w' = w := by
  have hc := h.cell
  have hle := h.le
  cases h1 : hasP n i with
  | false =>
    have HB : Hid (readT n L i = ByteArray.empty) := by show _ = _; simp [readT, h1]
    have HE : Hid (readE n i = 1) := by show _ = _; simp [readE, h1]
    have H1 : Hid (hasP n i = false) := h1
    clear h1
    go_enter Try.func15, Try.ntmps15
    go_wp2_with fail
    refine (shas _ _ n L i _ h).mono ?_
    rintro e w' ⟨rfl, rfl⟩
    rw [H1.out]
    go_wp2_with fail
    go_ret2
    exact ⟨by rw [HB.out, HE.out]; rfl, rfl⟩
  | true =>
    have H1 : Hid (hasP n i = true) := h1
    obtain ⟨k, rfl, hk⟩ := hasP_true h1
    obtain ⟨T, hT⟩ : ∃ T, T = pgOf L k := ⟨_, rfl⟩
    have HB : Hid (readT n L k = ⟨T.toArray⟩) := by show _ = _; simp [readT, h1, hT]
    have HE : Hid (readE n k = 0) := by show _ = _; simp [readE, h1]
    have hTl : T.length = 16 := by rw [hT]; exact pgOf_len h.len hk
    have hcv := run_convert_bytes_back (P := Try.prog) w 41 9 5 ⟨p, k * 16, none⟩ 16 T Try.underlying41 Try.underlying5 Try.underlying9 (fun j hj => by
      have := h.range k j (.int .u8 (T[j].toNat : Int)) (by
        show (bc (pgOf L k))[j]? = _
        rw [← hT]; exact bc_get T j hj)
      rw [Addr.add_mid]; exact this)
    rw [hTl] at hcv
    clear h1 hT
    go_enter Try.func15, Try.ntmps15
    go_wp2_with fail
    refine (shas _ _ n L k _ h).mono ?_
    rintro e w' ⟨rfl, rfl⟩
    rw [H1.out]
    go_wp2_with fail
    go_ret2
    exact ⟨by rw [HB.out, HE.out]; rfl, rfl⟩
end Go.Proofs.Ytidjbkjbfblknaa
