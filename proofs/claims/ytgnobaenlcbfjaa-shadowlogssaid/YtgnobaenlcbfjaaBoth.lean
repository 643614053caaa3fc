/-
  Both logs side by side, with the row of words that were made.
-/
import Derived.Test.YtgnobaenlcbfjaaR1
import Derived.Test.YtgnobaenlcbfjaaOpen
namespace Go.Proofs.Ytgnobaenlcbfjaa
open Go.RowKit

/-- Where all lies. -/
structure Pl where
  c : Nat
  d : Nat
  p : Nat
  q : Nat
  B : Nat
/-- The program's log has f and k, the document's f' and k'; M was made, and lies in the row v. -/
structure Bo (w wr : World) (P : Pl) (f k f' k' : Int → Int) (v : Value) (M : List Nat) : Prop where
  lg : Lg w wr P.c f k
  rf : RfIs wr P.d P.p P.q f' k'
  pl : w.heap.size ≤ P.p
  ql : w.heap.size ≤ P.q
  md : Md P.B wr v M
  lo : w.heap.size ≤ P.B
  hi : P.B ≤ wr.heap.size
section
variable {w wr : World} {P : Pl} {f k f' k' : Int → Int} {v : Value} {M : List Nat}
theorem Bo.bel (h : Bo w wr P f k f' k' v M) : Below w.heap.size w wr := h.lg.bel
theorem Bo.drewN (h : Bo w wr P f k f' k' v M) (n : Nat) : Bo w (wr.drewN n) P f k f' k' v M := ⟨h.lg.drewN n, h.rf.drewN n, h.pl, h.ql, h.md.drewN n, h.lo, h.hi⟩
theorem Bo.later {w' : World} (h : Bo w wr P f k f' k' v M) (hb : Below wr.heap.size wr w') : Bo w w' P f k f' k' v M := ⟨h.lg.later hb, h.rf.later hb, h.pl, h.ql, h.md.later hb, h.lo, Nat.le_trans h.hi hb.size⟩
theorem Bo.turnA {w' : World} {f2 k2 : Int → Int} (h : Bo w wr P f k f' k' v M) (h2 : Lg w w' P.c f2 k2) (ha : Apart P.c wr w') : Bo w w' P f2 k2 f' k' v M :=
  ⟨h2, h.rf.apart h.lg.is (by decide) (by decide) ha, h.pl, h.ql, h.md.apart h.lg.is (by decide) ha, h.lo, Nat.le_trans h.hi ha.size⟩
theorem Bo.turnP {w' : World} {f2 : Int → Int} (h : Bo w wr P f k f' k' v M) (h2 : RfIs w' P.d P.p P.q f2 k') (ha : Apart P.p wr w') : Bo w w' P f k f2 k' v M :=
  ⟨⟨RowAt.apart h.lg.is ha (ne_type h.lg.is h.rf.cf (by decide)), h.lg.lo, h.lg.bel.trans (ha.below h.pl h.lg.bel.size)⟩, h2, h.pl, h.ql, h.md.apart h.rf.cf (by decide) ha, h.lo, Nat.le_trans h.hi ha.size⟩
theorem Bo.turnQ {w' : World} {k2 : Int → Int} (h : Bo w wr P f k f' k' v M) (h2 : RfIs w' P.d P.p P.q f' k2) (ha : Apart P.q wr w') : Bo w w' P f k f' k2 v M :=
  ⟨⟨RowAt.apart h.lg.is ha (ne_type h.lg.is h.rf.ck (by decide)), h.lg.lo, h.lg.bel.trans (ha.below h.ql h.lg.bel.size)⟩, h2, h.pl, h.ql, h.md.apart h.rf.ck (by decide) ha, h.lo, Nat.le_trans h.hi ha.size⟩
theorem Bo.grown {w' : World} {v' : Value} {M' : List Nat} (h : Bo w wr P f k f' k' v M) (hg : wr.grownBy w' v.ownBlock) (hm : Md P.B w' v' M') : Bo w w' P f k f' k' v' M' :=
  ⟨h.lg.grown h.md h.lo h.hi hg, h.rf.grown h.md hg, h.pl, h.ql, hm, h.lo, Nat.le_trans h.hi hg.size⟩
/-- One more of a group goes, on the program's side. -/
theorem Bo.wentA {N : Nat} (h : Bo w wr P f k f' k' v M) (hf : Upto f N) (hN : N ≤ 1000000) (g : Int) :
    Calls Try.prog 18 #[.pointer (some ⟨P.c, 0, none⟩), .int .i64 g] wr fun e w' => e = .returned (.int .u64 (wentX f g)) ∧ Bo w w' P (up f g) k f' k' v M :=
  (wentL h.lg hf hN g).mono fun _ _ ⟨h1, h2, h3⟩ => ⟨h1, h.turnA h2 h3⟩
theorem Bo.wentB {N : Nat} (h : Bo w wr P f k f' k' v M) (hf : Upto f' N) (hN : N ≤ 1000000) (g : Int) :
    Calls Try.prog 19 #[.pointer (some ⟨P.d, 0, none⟩), .int .i64 g] wr fun e w' => e = .returned (.int .u64 (wentX f' g)) ∧ Bo w w' P f k (up f' g) k' v M :=
  (rwent N P.d P.p P.q f' k' g wr h.rf hf hN).mono fun _ _ ⟨h1, h2, h3⟩ => ⟨h1, h.turnP h2 h3⟩
theorem Bo.cameA {N : Nat} (h : Bo w wr P f k f' k' v M) (hf : Upto f N) (hk : Upto k N) (hN : N ≤ 1000000) (x : Nat) (g r : Int) (hx : x < 18446744073709551616) :
    Calls Try.prog 20 #[.pointer (some ⟨P.c, 0, none⟩), .int .u64 x, .int .i64 g, .int .i64 r] wr fun e w' => e = .returned (.bool (cameB f x r)) ∧ Bo w w' P f (cameF f k x g r) f' k' v M :=
  (cameL h.lg hf hk hN hN x g r hx).mono fun _ _ ⟨h1, h2, h3⟩ => ⟨h1, h.turnA h2 h3⟩
theorem Bo.cameB' {N : Nat} (h : Bo w wr P f k f' k' v M) (hf : Upto f' N) (hk : Upto k' N) (hN : N ≤ 1000000) (x : Nat) (g r : Int) (hx : x < 18446744073709551616) :
    Calls Try.prog 21 #[.pointer (some ⟨P.d, 0, none⟩), .int .u64 x, .int .i64 g, .int .i64 r] wr fun e w' => e = .returned (.bool (cameB f' x r)) ∧ Bo w w' P f k f' (cameF f' k' x g r) v M :=
  (rcame N N P.d P.p P.q f' k' x g r wr h.rf hf hk hN hN hx).mono fun _ _ ⟨h1, h2, h3⟩ => ⟨h1, h.turnQ h2 h3⟩
end
/-- Both made. -/
theorem newB {w w1 : World} {c : Nat} (h : Lg w w1 c (fun _ => 0) (fun _ => 0)) : Calls Try.prog 17 #[] w1 fun e w' => ∃ P : Pl, P.c = c ∧ e = .returned (.pointer (some ⟨P.d, 0, none⟩)) ∧ Bo w w' P (fun _ => 0) (fun _ => 0) (fun _ => 0) (fun _ => 0) (.slice none 0 0) [] := by
  refine (rnew w1).mono ?_
  rintro e w' ⟨d, p, q, rfl, hp, hq, h1, hb⟩
  have h2 := h.later hb
  exact ⟨⟨c, d, p, q, w'.heap.size⟩, rfl, rfl, h2, h1, Nat.le_trans h.bel.size hp, Nat.le_trans h.bel.size hq, Md.nil _ _, h2.bel.size, Nat.le_refl _⟩
end Go.Proofs.Ytgnobaenlcbfjaa
