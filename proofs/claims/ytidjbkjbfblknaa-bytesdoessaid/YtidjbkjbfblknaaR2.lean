/-
  Contracts of the document's own store: Put, Read, New.
-/
import Derived.Test.YtidjbkjbfblknaaR1
namespace Go.Proofs.Ytidjbkjbfblknaa
open Go.RowKit

theorem RefIs.set {w w' : World} {r q n : Nat} {L L' : List UInt8} (h : RefIs w r q n L) (hb : But q w w') (hc : RowAt w' q 5 (bc L')) (hl : L'.length = L.length) : RefIs w' r q n L' :=
  ⟨by rw [hl]; exact h.h.but hb h.ne, hc, by rw [hl]; exact h.len, h.le, h.ne⟩

theorem rput (r q n : Nat) (L : List UInt8) (i at_ : Int) (b : UInt8) (w : World) (h : RefIs w r q n L) :
    Calls Try.prog 11 #[.pointer (some ⟨r, 0, none⟩), .int .i64 i, .int .i64 at_, bv b] w fun e w' => e = .returned (.int .i64 (getE n i at_)) ∧ RefIs w' r q n (putL n L i at_ b) ∧ Apart q w w' := by
  have hc := h.cell
  have hle := h.le
  cases h1 : hasP n i with
  | false =>
    have HB : Hid (putL n L i at_ b = L) := by show _ = _; simp [putL, h1]
    have HE : Hid (getE n i at_ = 1) := by show _ = _; simp [getE, h1]
    have H1 : Hid (hasP n i = false) := h1
    clear h1
    go_enter Try.func11, Try.ntmps11
    go_wp2_with fail
    refine (rpage _ _ n L i _ h).mono ?_
    rintro e w' ⟨rfl, rfl⟩
    rw [H1.out]
    go_wp2_with fail
    go_ret
    exact ⟨by rw [HE.out]; rfl, by rw [HB.out]; exact h, Apart.refl _ _⟩
  | true =>
    have H1 : Hid (hasP n i = true) := h1
    cases h2 : hasP 16 at_ with
    | false =>
      have HB : Hid (putL n L i at_ b = L) := by show _ = _; simp [putL, h2]
      have HE : Hid (getE n i at_ = 1) := by show _ = _; simp [getE, h2]
      have h3 := hasP_false h2
      clear h1 h2
      by_cases h4 : at_ < 0
      · go_enter Try.func11, Try.ntmps11
        go_wp2_with fail
        refine (rpage _ _ n L i _ h).mono ?_
        rintro e w' ⟨rfl, rfl⟩
        rw [H1.out]
        go_wp2_with fail
        go_ret
        exact ⟨by rw [HE.out]; rfl, by rw [HB.out]; exact h, Apart.refl _ _⟩
      · have h5 : 15 < at_ := by omega
        clear h3
        go_enter Try.func11, Try.ntmps11
        go_wp2_with fail
        refine (rpage _ _ n L i _ h).mono ?_
        rintro e w' ⟨rfl, rfl⟩
        rw [H1.out]
        go_wp2_with fail
        go_ret
        exact ⟨by rw [HE.out]; rfl, by rw [HB.out]; exact h, Apart.refl _ _⟩
    | true =>
      obtain ⟨k, rfl, hk⟩ := hasP_true h1
      obtain ⟨j, rfl, hj⟩ := hasP_true h2
      have hl : k * 16 + j < L.length := by rw [h.len]; omega
      have hat := h.at (k * 16 + j) hl
      have hfr := h.c.frozen (k * 16 + j)
      obtain ⟨x, hx⟩ : ∃ x, x = (L[k * 16 + j].toNat : Int) := ⟨_, rfl⟩
      rw [← hx] at hat
      have HB : Hid (putL n L k j b = L.set (16 * k + j) b) := by show _ = _; rw [Nat.mul_comm]; simp [putL, h1, h2]
      have HE : Hid (getE n k j = 0) := by show _ = _; simp [getE, h1, h2]
      have hat' : w.cell? ⟨q, 16 * k + j, none⟩ = some (.int .u8 x) := by rw [Nat.mul_comm]; exact hat
      have hfr' : w.frozen? ⟨q, 16 * k + j, none⟩ = false := by rw [Nat.mul_comm]; exact hfr
      have hlen := h.len
      clear h1 h2 hx hat hfr
      unfold bv
      go_enter Try.func11, Try.ntmps11
      go_wp2_with fail
      refine (rpage _ _ n L k _ h).mono ?_
      rintro e w' ⟨rfl, rfl⟩
      rw [H1.out]
      go_wp2_with fail
      go_ret
      refine ⟨by rw [HE.out]; rfl, ?_, Apart.ofBut (But.setCell _ _ _ _)⟩
      rw [HB.out]
      have hc1 := h.c.set (16 * k + j) (bv b)
      rw [bc_set] at hc1
      exact h.set (But.setCell _ _ _ _) hc1 (by simp)

theorem RefIs.range {w : World} {r q n : Nat} {L : List UInt8} (h : RefIs w r q n L) (k : Nat) : w.rangeAt q (k * 16) (bc (pgOf L k)) := by
  intro j v hv
  rw [h.c.cell]
  simp only [pgOf, bc, List.map_take, List.map_drop, List.getElem?_take, List.getElem?_drop] at hv
  split at hv
  · exact hv
  · cases hv

theorem rread (r q n : Nat) (L : List UInt8) (i : Int) (w : World) (h : RefIs w r q n L) :
    Calls Try.prog 16 #[.pointer (some ⟨r, 0, none⟩), .int .i64 i] w fun e w' => e = .returned (.tuple #[.string (readT n L i), .int .i64 (readE n i)]) ∧ w' = w := by
  have hc := h.cell
  have hle := h.le
  cases h1 : hasP n i with
  | false =>
    have HB : Hid (readT n L i = ByteArray.empty) := by show _ = _; simp [readT, h1]
    have HE : Hid (readE n i = 1) := by show _ = _; simp [readE, h1]
    have H1 : Hid (hasP n i = false) := h1
    clear h1
    go_enter Try.func16, Try.ntmps16
    go_wp2_with fail
    refine (rpage _ _ n L i _ h).mono ?_
    rintro e w' ⟨rfl, rfl⟩
    rw [H1.out]
    go_wp2_with fail
    go_ret2
    exact ⟨by rw [HB.out, HE.out]; rfl, rfl⟩
  | true =>
    have H1 : Hid (hasP n i = true) := h1
    obtain ⟨k, rfl, hk⟩ := hasP_true h1
    obtain ⟨T, hT⟩ : ∃ T, T = pgOf L k := ⟨_, rfl⟩
    have HB : Hid (readT n L k = ⟨T.toArray⟩) := by show _ = _; simp [readT, h1, hT]
    have HE : Hid (readE n k = 0) := by show _ = _; simp [readE, h1]
    have hTl : T.length = 16 := by rw [hT]; exact pgOf_len h.len hk
    obtain ⟨M, hM⟩ : ∃ M, M = L.length := ⟨_, rfl⟩
    have hlen := h.len
    rw [← hM] at hc hlen
    have hcv : ∀ cap, (convert 41 9 (.slice (some ⟨q, 16 * k, none⟩) 16 cap)).run Try.prog w = .ok (.string ⟨T.toArray⟩) w := fun cap => by
      have := run_convert_bytes_back (P := Try.prog) w 41 9 5 ⟨q, k * 16, none⟩ cap T Try.underlying41 Try.underlying5 Try.underlying9 (fun j hj => by
        have := h.range k j (.int .u8 (T[j].toNat : Int)) (by
          rw [← hT]; exact bc_get T j hj)
        rw [Addr.add_mid]; exact this)
      rw [hTl] at this
      rw [Nat.mul_comm]
      exact this
    clear h1 hT hM
    go_enter Try.func16, Try.ntmps16
    go_wp2_with fail
    refine (rpage _ _ n L k _ h).mono ?_
    rintro e w' ⟨rfl, rfl⟩
    rw [H1.out]
    go_wp2_with fail
    go_ret2
    exact ⟨by rw [HB.out, HE.out]; rfl, rfl⟩

theorem ref_made (w w1 : World) (k : Nat) (hk : k ≤ 1024) (hr : RowAt w1 w.heap.size 5 (List.replicate (k * 16) (.int .u8 0))) (hz : w1.heap.size = w.heap.size + 1) (hb : Below w.heap.size w w1) :
    RefIs (w1.alloc (.cells #[.slice (some ⟨w.heap.size, 0, none⟩) (k * 16) (k * 16)] 43)) w1.heap.size w.heap.size k (List.replicate (k * 16) 0) ∧ Below w.heap.size w (w1.alloc (.cells #[.slice (some ⟨w.heap.size, 0, none⟩) (k * 16) (k * 16)] 43)) := by
  refine ⟨⟨?_, ?_, by simp, hk, by omega⟩, hb.trans ((below_alloc _ _).mono (by omega))⟩
  · rw [List.length_replicate]
    exact RowAt.new _ _ _
  · rw [← bc_replicate]
    exact hr.alloc _
def MadeR (w : World) (k : Nat) (e : Ending) (w' : World) : Prop :=
  ∃ r q, e = .returned (.pointer (some ⟨r, 0, none⟩)) ∧ RefIs w' r q k (List.replicate (k * 16) 0) ∧ w.heap.size ≤ q ∧ w.heap.size ≤ r ∧ Below w.heap.size w w'

set_option maxHeartbeats 1000000 in
theorem rnew (x : Int) (k : Nat) (w : World) (hk : x < 0 ∧ k = 0 ∨ x = k ∧ k ≤ 1024 ∨ 1024 < x ∧ k = 1024) :
    Calls Try.prog 9 #[.int .i64 x] w fun e w' => MadeR w k e w' := by
  have h2 : k ≤ 1024 := by omega
  have HF : Hid _ := fun w1 hr hz hb => ref_made w w1 k (by omega) hr hz hb
  rcases hk with ⟨h1, h3⟩ | ⟨rfl, -⟩ | ⟨h1, h3⟩
  · have HK : Hid (k = 0) := h3
    clear h3
    go_enter Try.func9, Try.ntmps9
    go_wp2_with (at_make; refine wpList_make_row _ rfl (.tmp 6) (.tmp 6) 41 rfl 5 (.int .u8 0) 1 Try.underlying41 info5z rfl .i64 .i64 _ _ (k * 16) rfl rfl (by have := HK.out; omega) (by have := HK.out; omega) (by omega) (by omega) ?_; intro w1 hr hz hb)
    all_goals
      go_ret
      obtain ⟨f1, f2⟩ := HF.out w1 hr hz hb
      rw [hz] at f1
      exact ⟨_, w.heap.size, rfl, f1, by omega, by omega, f2⟩
  · go_enter Try.func9, Try.ntmps9
    go_wp2_with (at_make; refine wpList_make_row _ rfl (.tmp 6) (.tmp 6) 41 rfl 5 (.int .u8 0) 1 Try.underlying41 info5z rfl .i64 .i64 _ _ (k * 16) rfl rfl (by omega) (by omega) (by omega) (by omega) ?_; intro w1 hr hz hb)
    all_goals
      go_ret
      obtain ⟨f1, f2⟩ := HF.out w1 hr hz hb
      rw [hz] at f1
      exact ⟨_, w.heap.size, rfl, f1, by omega, by omega, f2⟩
  · have HK : Hid (k = 1024) := h3
    clear h3
    go_enter Try.func9, Try.ntmps9
    go_wp2_with (at_make; refine wpList_make_row _ rfl (.tmp 6) (.tmp 6) 41 rfl 5 (.int .u8 0) 1 Try.underlying41 info5z rfl .i64 .i64 _ _ (k * 16) rfl rfl (by have := HK.out; omega) (by have := HK.out; omega) (by omega) (by omega) ?_; intro w1 hr hz hb)
    all_goals
      go_ret
      obtain ⟨f1, f2⟩ := HF.out w1 hr hz hb
      rw [hz] at f1
      exact ⟨_, w.heap.size, rfl, f1, by omega, by omega, f2⟩
end Go.Proofs.Ytidjbkjbfblknaa
