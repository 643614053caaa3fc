/-
  A store that a law made, told with what lies below it; the document's example.
-/
import Derived.Test.YtmemciebpnamkaaP6
namespace Go.Proofs.Ytmemciebpnamkaa
open Go.RowKit

/-- A store made since w0; what lay there ahead is as it was. -/
structure Own (w0 w : World) (s p m : Nat) (S : List Nat) (L : List Ent) : Prop where
  st : StoreIs w s p m S L
  bel : Below w0.heap.size w0 w
  ls : w0.heap.size ≤ s
  lp : w0.heap.size ≤ p
  lm : w0.heap.size ≤ m
section
variable {w0 w w' : World} {s p m : Nat} {S : List Nat} {L L' : List Ent}
theorem Own.grow (h : Own w0 w s p m S L) (hb : Below w.heap.size w w') : Own w0 w' s p m S L := ⟨h.st.below hb, h.bel.trans (hb.mono h.bel.size), h.ls, h.lp, h.lm⟩
theorem Own.drewN (h : Own w0 w s p m S L) (n : Nat) : Own w0 (w.drewN n) s p m S L := ⟨h.st.drewN n, below_drawn h.bel n, h.ls, h.lp, h.lm⟩
theorem Own.turn (h : Own w0 w s p m S L) (hs : StoreIs w' s p m S L') (ht : Turn (fun k => k = s ∨ k = m) w w') : Own w0 w' s p m S L' :=
  ⟨hs, h.bel.trans (ht.below (fun k hk => by have := h.ls; have := h.lm; omega) h.bel.size), h.ls, h.lp, h.lm⟩
theorem newO (a : Option Addr) (cap : Nat) (l : List Int) (hl : l.length ≤ 1000000) (hc : IntsAt w a l) (hb : Below w0.heap.size w0 w) :
    Calls Try.prog 8 #[.slice a l.length cap] w fun e w' => ∃ s p m, e = .returned (.pointer (some ⟨s, 0, none⟩)) ∧ Own w0 w' s p m (sizesOf l) [] :=
  (pnew a cap l w hl hc).mono fun _ _ ⟨s, p, m, h1, h2, h3, h4, h5, h6⟩ => ⟨s, p, m, h1, h2, hb.trans (h3.mono hb.size), Nat.le_trans hb.size h4, Nat.le_trans hb.size h5, Nat.le_trans hb.size h6⟩
theorem writeO (f i : Int) (T : List UInt8) (h : Own w0 w s p m S L) (hL : L.length < 1000000) :
    Calls Try.prog 13 #[.pointer (some ⟨s, 0, none⟩), .agg #[.int .i64 f, .int .i64 i], .string ⟨T.toArray⟩] w fun e w' => e = .returned (.int .i64 (writeE S f i T)) ∧ Own w0 w' s p m S (writeL S L f i T) :=
  (pwrite s p m S L f i T w h.st hL).mono fun _ _ ⟨a, b, c⟩ => ⟨a, h.turn b c⟩
theorem readO (f i : Int) (h : Own w0 w s p m S L) :
    Calls Try.prog 15 #[.pointer (some ⟨s, 0, none⟩), .agg #[.int .i64 f, .int .i64 i]] w fun e w' => e = .returned (.tuple #[.string (readT S L f i), .int .i64 (readE S f i)]) ∧ Below w.heap.size w w' ∧ Own w0 w' s p m S L :=
  (pread s p m S L f i w h.st).mono fun _ _ ⟨a, b⟩ => ⟨a, b, h.grow b⟩
theorem sizeO (f : Int) (h : Own w0 w s p m S L) :
    Calls Try.prog 18 #[.pointer (some ⟨s, 0, none⟩), .int .i64 f] w fun e w' => e = .returned (.int .i64 (sizeK S f)) ∧ w' = w := psize s p m S L f w h.st
theorem countO (h : Own w0 w s p m S L) : Calls Try.prog 10 #[.pointer (some ⟨s, 0, none⟩)] w fun e w' => e = .returned (.int .i64 S.length) ∧ w' = w := pcount s p m S L w h.st
theorem writesO (h : Own w0 w s p m S L) : Calls Try.prog 17 #[.pointer (some ⟨s, 0, none⟩)] w fun e w' => e = .returned (.int .i64 L.length) ∧ w' = w := pwrites s p m S L w h.st
end

/-! ### the example -/
def exT : List UInt8 := [48, 49, 50, 51, 52, 53, 54, 55, 56, 57, 97, 98, 99, 100, 101, 102]
theorem ex_first : firstT 1 2 = [45, 46, 47, 48, 49, 50, 51, 52, 53, 54, 55, 56, 57, 58, 59, 60] := by decide
theorem ex_sizes : sizesOf [3, 5] = [3, 5] := by decide
theorem ex_read1 : readT [3, 5] [] 1 2 = ⟨#[45, 46, 47, 48, 49, 50, 51, 52, 53, 54, 55, 56, 57, 58, 59, 60]⟩ := by
  rw [readT_none (by decide) rfl, ex_first]
theorem ex_write : writeL [3, 5] [] 1 2 exT = [⟨1, 2, exT⟩] := writeL_ok (by decide) rfl
theorem ex_read2 : readT [3, 5] [⟨1, 2, exT⟩] 1 2 = ⟨#[48, 49, 50, 51, 52, 53, 54, 55, 56, 57, 97, 98, 99, 100, 101, 102]⟩ := by
  rw [readT_some (T := exT) (by decide) (by decide)]; rfl
theorem ex_read3 : readT [3, 5] [⟨1, 2, exT⟩] 0 3 = ByteArray.empty := readT_no (by decide)
theorem ex_e1 : readE [3, 5] 1 2 = 0 := by decide
theorem ex_e2 : writeE [3, 5] 1 2 exT = 0 := by decide
theorem ex_e3 : readE [3, 5] 0 3 = 2 := by decide
theorem ex_s : sizeK [3, 5] 1 = 5 := by decide

set_option maxRecDepth 100000 in
set_option maxHeartbeats 2000000 in
theorem works_any (w : World) : Calls Try.prog 7 #[] w fun e w' => e = .returned (.bool true) ∧ Below w.heap.size w w' := by
  go_enter Try.func7, Try.ntmps7
  go_wp2_with fail
  refine (newO (w0 := w) (some ⟨w.heap.size, 0, none⟩) 2 [3, 5] (by decide) ?_ (below_alloc _ _)).mono ?_
  · intro i hi
    have hi' : i < 2 := hi
    refine ⟨_, _, rfl, ?_⟩
    rw [(RowAt.new w #[Value.int IntKind.i64 3, Value.int IntKind.i64 5] 3).cell]
    have : i = 0 ∨ i = 1 := by omega
    rcases this with rfl | rfl <;> rfl
  rintro e w1 ⟨s, p, m, rfl, h1⟩
  rw [ex_sizes] at h1
  go_wp2_with fail
  refine (readO 1 2 h1).mono ?_
  rintro e w2 ⟨rfl, -, h2⟩
  rw [ex_read1, ex_e1]
  clear h1
  go_wp2_with fail
  refine (writeO 1 2 exT h2 (by decide)).mono ?_
  rintro e w3 ⟨rfl, h3⟩
  rw [ex_write] at h3
  rw [ex_e2]
  clear h2
  go_wp2_with fail
  refine (readO 1 2 h3).mono ?_
  rintro e w4 ⟨rfl, -, h4⟩
  rw [ex_read2, ex_e1]
  clear h3
  go_wp2_with fail
  refine (readO 0 3 h4).mono ?_
  rintro e w5 ⟨rfl, -, h5⟩
  rw [ex_read3, ex_e3]
  clear h4
  go_wp2_with fail
  refine (countO h5).mono ?_
  rintro e w6 ⟨rfl, rfl⟩
  go_wp2_with fail
  refine (sizeO 1 h5).mono ?_
  rintro e w6 ⟨rfl, rfl⟩
  rw [ex_s]
  go_wp2_with fail
  refine (writesO h5).mono ?_
  rintro e w6 ⟨rfl, rfl⟩
  go_wp2_with fail
  refine (pfirst 1 2 _).mono ?_
  rintro e w6 ⟨rfl, hb6⟩
  rw [ex_first]
  go_wp2_with fail
  go_ret
  exact ⟨rfl, h5.bel.trans (hb6.mono h5.bel.size)⟩
end Go.Proofs.Ytmemciebpnamkaa
