/-
  Nodes by value, and lists of them in memory; the contracts of isParent, isAmount, isPlace, claim.
-/
import Derived.Test.YtimgpikgkbjliaaMem
import Derived.Test.YtimgpikgkbjliaaUp
import Derived.Test.YtimgpikgkbjliaaMath
import Derived.Test.YtimgpikgkbjliaaRows
import Derived.Deep.RegionHeld3
import Derived.Laws.ResultCell
import Derived.Laws.Rows
namespace Go.Proofs.Ytimgpikgkbjliaa
open Go.RowKit

theorem below_drawn {B : Nat} {w w' : World} (h : Below B w w') (n : Nat) : Below B w (w'.drewN n) := ⟨h.os, h.tape, h.output, h.size, h.block⟩
theorem cell_later {w w' : World} {p : Addr} {v : Value} (hb : Below w.heap.size w w') (h : w.cell? p = some v) : w'.cell? p = some v := by
  rw [hb.cell (p := p) (block_lt_of_cell (a := p) h)]; exact h
theorem RowAt.later {w w' : World} {b : Nat} {t : TypeId} {vs : List Value} (h : RowAt w b t vs) (hb : Below w.heap.size w w') : RowAt w' b t vs := h.below hb h.lt
theorem bel_trans {w w1 w2 : World} (h : Below w.heap.size w w1) (h2 : Below w1.heap.size w1 w2) : Below w.heap.size w w2 := h.trans (h2.mono h.size)

/-- A node's value, and its cells. -/
abbrev nv (x : Nd) : Value := .agg #[.int .i64 x.p, .int .i64 x.u, .int .i64 x.o]
def nc (x : Nd) : List Value := [.int .i64 x.p, .int .i64 x.u, .int .i64 x.o]
def nz : Nd := ⟨-1, 0, 0⟩
theorem RowAt.tri {w : World} {b : Nat} {t : TypeId} {x : Nd} (h : RowAt w b t (nc x)) :
    w.cell? ⟨b, 0, none⟩ = some (.int .i64 x.p) ∧ w.cell? ⟨b, 1, none⟩ = some (.int .i64 x.u) ∧ w.cell? ⟨b, 2, none⟩ = some (.int .i64 x.o) :=
  ⟨by rw [h.cell]; rfl, by rw [h.cell]; rfl, by rw [h.cell]; rfl⟩
/-- A node's box laid. -/
theorem boxOn (t : TypeId) (w w2 : World) (x : Nd) (hB : Below w.heap.size w w2) : ∃ w3, w3 = w2.alloc (.cells #[.int .i64 x.p, .int .i64 x.u, .int .i64 x.o] t) ∧ RowAt w3 w2.heap.size t (nc x) ∧ Below w.heap.size w w3 ∧ Below w2.heap.size w2 w3 :=
  ⟨_, rfl, RowAt.new w2 #[.int .i64 x.p, .int .i64 x.u, .int .i64 x.o] t, hB.trans ((below_alloc _ _).mono hB.size), below_alloc _ _⟩

/-- A slice of nodes, as it lies in memory. -/
structure Nds (w : World) (a : Option Addr) (cap : Nat) (L : List Nd) : Prop where
  le : L.length ≤ cap
  nil : a = none → cap = 0
  at' : ∀ j, j < L.length → ∃ b off, a = some ⟨b, off, none⟩ ∧ w.rangeAt b (off + j * 3) (nc (L.getD j nz))
theorem Nds.later {w w' : World} {a : Option Addr} {cap : Nat} {L : List Nd} (h : Nds w a cap L) (hb : Below w.heap.size w w') : Nds w' a cap L := by
  refine ⟨h.le, h.nil, fun j hj => ?_⟩
  obtain ⟨b, off, rfl, h1⟩ := h.at' j hj
  exact ⟨b, off, rfl, fun i v hv => cell_later hb (h1 i v hv)⟩
theorem Nds.drewN {w : World} {a : Option Addr} {cap : Nat} {L : List Nd} (h : Nds w a cap L) (n : Nat) : Nds (w.drewN n) a cap L := ⟨h.le, h.nil, h.at'⟩
/-- Number j of them. -/
theorem Nds.get {w : World} {a : Option Addr} {cap : Nat} {L : List Nd} (h : Nds w a cap L) {j : Nat} (hj : j < L.length) :
    ∃ (b off : Nat), a = some ⟨b, off, none⟩ ∧ w.cell? ⟨b, off + j * 3, none⟩ = some (.int .i64 (par L j)) ∧ w.cell? ⟨b, off + j * 3 + 1, none⟩ = some (.int .i64 (use L j)) ∧ w.cell? ⟨b, off + j * 3 + 2, none⟩ = some (.int .i64 (Ytimgpikgkbjliaa.own L j)) := by
  obtain ⟨b, off, rfl, h1⟩ := h.at' j hj
  exact ⟨b, off, rfl, h1 0 _ rfl, h1 1 _ rfl, h1 2 _ rfl⟩

/-! ### small calls -/
/-- Can it be the parent of the one at place g? -/
def isPar (p g : Int) : Bool := if g = 0 then decide (p = -1) else decide (0 ≤ p) && decide (p < g)
def isAmt (n : Int) : Bool := decide (0 ≤ n) && decide (n ≤ 1099511627776)
def isPlc (n : Nat) (g : Int) : Bool := decide (0 ≤ g) && decide (g < n)

theorem ppar (p g : Int) (w : World) : Calls Try.prog 29 #[.int .i64 p, .int .i64 g] w fun e w' => e = .returned (.bool (isPar p g)) ∧ w' = w := by
  by_cases h : g = 0
  · subst h
    have hd : (p == -1) = decide (p = -1) := by by_cases h : p = -1 <;> simp [h]
    go_enter Try.func29, Try.ntmps29
    go_wp2
    go_ret
    exact ⟨by simp [isPar], rfl⟩
  · have hd : (g == 0) = false := by simpa using h
    by_cases h0 : 0 ≤ p
    · have d0 : decide (0 ≤ p) = true := by simpa using h0
      have e : isPar p g = decide (p < g) := by simp [isPar, h, h0]
      rw [e]
      clear e
      go_enter Try.func29, Try.ntmps29
      go_wp2
      go_ret
      exact ⟨rfl, rfl⟩
    · have d0 : decide (0 ≤ p) = false := by simpa using h0
      have e : isPar p g = false := by simp [isPar, h, h0]
      rw [e]
      clear e
      go_enter Try.func29, Try.ntmps29
      go_wp2
      go_ret
      exact ⟨rfl, rfl⟩
theorem pamt (n : Int) (w : World) : Calls Try.prog 30 #[.int .i64 n] w fun e w' => e = .returned (.bool (isAmt n)) ∧ w' = w := by
  by_cases h : 0 ≤ n
  · have d0 : decide (0 ≤ n) = true := by simpa using h
    have e : isAmt n = decide (n ≤ 1099511627776) := by simp [isAmt, h]
    rw [e]
    clear e
    go_enter Try.func30, Try.ntmps30
    go_wp2
    go_ret
    exact ⟨rfl, rfl⟩
  · have d0 : decide (0 ≤ n) = false := by simpa using h
    have e : isAmt n = false := by simp [isAmt, h]
    rw [e]
    clear e
    go_enter Try.func30, Try.ntmps30
    go_wp2
    go_ret
    exact ⟨rfl, rfl⟩
theorem pplc (a : Option Addr) (n cap : Nat) (g : Int) (w : World) : Calls Try.prog 22 #[.slice a n cap, .int .i64 g] w fun e w' => e = .returned (.bool (isPlc n g)) ∧ w' = w := by
  by_cases h : 0 ≤ g
  · have d0 : decide (0 ≤ g) = true := by simpa using h
    have e : isPlc n g = decide (g < n) := by simp [isPlc, h]
    rw [e]
    clear e
    go_enter Try.func22, Try.ntmps22
    go_wp2
    go_ret
    exact ⟨rfl, rfl⟩
  · have d0 : decide (0 ≤ g) = false := by simpa using h
    have e : isPlc n g = false := by simp [isPlc, h]
    rw [e]
    clear e
    go_enter Try.func22, Try.ntmps22
    go_wp2
    go_ret
    exact ⟨rfl, rfl⟩
/-- The lesser of what one asks and what it uses. -/
theorem pclaim (x : Nd) (w : World) : Calls Try.prog 25 #[nv x] w fun e w' => e = .returned (.int .i64 (min x.o x.u)) ∧ Below w.heap.size w w' := by
  obtain ⟨p, u, o⟩ := x
  show Calls Try.prog 25 #[.agg #[.int .i64 p, .int .i64 u, .int .i64 o]] w fun e w' => e = .returned (.int .i64 (min o u)) ∧ Below w.heap.size w w'
  by_cases h : u < o
  · have e : min o u = u := by omega
    rw [e]
    clear e
    go_enter Try.func25, Try.ntmps25
    go_wp2
    go_ret
    exact ⟨rfl, below_alloc _ _⟩
  · have e : min o u = o := by omega
    rw [e]
    clear e
    go_enter Try.func25, Try.ntmps25
    go_wp2
    go_ret
    exact ⟨rfl, below_alloc _ _⟩

/-! ### may they be -/
theorem vd1_iff (i : Nat) (x : Nd) : vd1 i x = (isPar x.p i && (isAmt x.u && isAmt x.o)) := by
  by_cases h : i = 0
  · subst h
    simp [vd1, isPar, isAmt, Bool.and_assoc]
  · simp [vd1, isPar, isAmt, h, Bool.and_assoc]
theorem vd_no {L : List Nd} {j : Nat} (hj : j < L.length) (h : vd1 j (L.getD j nz) = false) : vd L = false := by
  cases hv : vd L with
  | false => rfl
  | true =>
    simp only [vd, Bool.and_eq_true] at hv
    have := vdN_at hv.1 hj
    unfold nz at h
    rw [h] at this
    cases this
theorem vd_long {L : List Nd} (h : 64 < L.length) : vd L = false := by
  have : decide (L.length ≤ 64) = false := by simpa using h
  simp [vd, this]
theorem vd_end {L : List Nd} (h : ∀ j, j < L.length → vd1 j (L.getD j nz) = true) : vd L = decide (L.length ≤ 64) := by
  simp [vd, vdN_mk h]
end Go.Proofs.Ytimgpikgkbjliaa
