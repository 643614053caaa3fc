/-
  The program's counter as it lies in memory; the contracts of isGroup, isAmount, of, Use, Limit, Failed, Peak.
-/
import Derived.Test.YtpageadhmgoddaaMath
import Derived.Test.YtpageadhmgoddaaUp
import Derived.Test.YtpageadhmgoddaaRows
import Derived.Laws.OwnMore
import Derived.Laws.ResultCell
import Derived.Laws.Rows
namespace Go.Proofs.Ytpageadhmgoddaa
open Go.RowKit

theorem below_drawn {B : Nat} {w w' : World} (h : Below B w w') (n : Nat) : Below B w (w'.drewN n) := ⟨h.os, h.tape, h.output, h.size, h.block⟩
theorem bel_trans {n : Nat} {a b c : World} (h : Below n a b) (k : Below b.heap.size b c) (hn : n ≤ a.heap.size) : Below n a c := h.trans (k.mono (Nat.le_trans hn h.size))
theorem cell_later {w w' : World} {p : Addr} {v : Value} (hb : Below w.heap.size w w') (h : w.cell? p = some v) : w'.cell? p = some v := by
  rw [hb.cell (p := p) (block_lt_of_cell (a := p) h)]; exact h
theorem own_form {w : World} {B e c n : Nat} {v : Value} {xs : List Value} (h : w.ownsRow B e c v n xs) :
    ∃ a cap, v = .slice a n cap ∧ (0 < n → ∃ g, a = some ⟨g, 0, none⟩ ∧ ∀ j, j < n * c → w.cell? ⟨g, j, none⟩ = xs[j]?) := by
  rcases h.2 with ⟨rfl, rfl⟩ | ⟨g, cap, cur, rfl, _⟩
  · exact ⟨none, 0, rfl, fun h => by omega⟩
  · exact ⟨_, cap, rfl, fun _ => ⟨g, rfl, fun j hj => h.cellAt j hj⟩⟩
theorem own_turn {w w' : World} {B e c n : Nat} {v : Value} {xs : List Value} (h : w.ownsRow B e c v n xs) (hb : ∀ k cur, B ≤ k → w.heap[k]? = some (.cells cur e (0, 0)) → w'.heap[k]? = some (.cells cur e (0, 0))) : w'.ownsRow B e c v n xs := by
  refine ⟨h.1, ?_⟩
  rcases h.2 with hn | ⟨g, cap, cur, rfl, hg, hgg, rest⟩
  · exact .inl hn
  · exact .inr ⟨g, cap, cur, rfl, hg, hb g cur hg hgg, rest⟩
theorem own_below {w w' : World} {B e c n : Nat} {v : Value} {xs : List Value} (h : w.ownsRow B e c v n xs) (hb : Below w.heap.size w w') : w'.ownsRow B e c v n xs :=
  own_turn h fun k _ _ hk => (hb.block k (lt_of_block hk)).trans hk
theorem own_mono {w : World} {B B' e c n : Nat} {v : Value} {xs : List Value} (h : w.ownsRow B e c v n xs) (hb : B' ≤ B) : w.ownsRow B' e c v n xs := by
  refine ⟨h.1, ?_⟩
  rcases h.2 with hn | ⟨g, cap, cur, h1, h2, h3⟩
  · exact .inl hn
  · exact .inr ⟨g, cap, cur, h1, Nat.le_trans hb h2, h3⟩

/-- Only blocks of these types turn; more may be made. -/
structure Ty (C : TypeId → Bool) (w w' : World) : Prop where
  os : w'.os = w.os
  tape : w'.tape = w.tape
  output : w'.output = w.output
  size : w.heap.size ≤ w'.heap.size
  block : ∀ (k : Nat) (cur : Array Value) (t : TypeId), C t = false → w.heap[k]? = some (Obj.cells cur t (0, 0)) → w'.heap[k]? = some (Obj.cells cur t (0, 0))
theorem Ty.refl (C : TypeId → Bool) (w : World) : Ty C w w := ⟨rfl, rfl, rfl, Nat.le_refl _, fun _ _ _ _ h => h⟩
theorem Ty.trans {C : TypeId → Bool} {u v w : World} (h : Ty C u v) (k : Ty C v w) : Ty C u w :=
  ⟨k.os.trans h.os, k.tape.trans h.tape, k.output.trans h.output, Nat.le_trans h.size k.size, fun i cur t hC hi => k.block i cur t hC (h.block i cur t hC hi)⟩
theorem Ty.ofBelow {C : TypeId → Bool} {w w' : World} (h : Below w.heap.size w w') : Ty C w w' := ⟨h.os, h.tape, h.output, h.size, fun k _ _ _ hk => (h.block k (lt_of_block hk)).trans hk⟩
theorem RowAt.ty {C : TypeId → Bool} {w w' : World} {b : Nat} {t : TypeId} {vs : List Value} (h : RowAt w b t vs) (hT : Ty C w w') (hC : C t = false) : RowAt w' b t vs := hT.block b _ t hC h
theorem own_ty {C : TypeId → Bool} {w w' : World} {B e c n : Nat} {v : Value} {xs : List Value} (h : w.ownsRow B e c v n xs) (hT : Ty C w w') (hC : C e = false) : w'.ownsRow B e c v n xs :=
  own_turn h fun k cur _ hk => hT.block k cur e hC hk
theorem Ty.mono {C D : TypeId → Bool} {w w' : World} (h : Ty C w w') (hd : ∀ t, D t = false → C t = false) : Ty D w w' := ⟨h.os, h.tape, h.output, h.size, fun k cur t ht hk => h.block k cur t (hd t ht) hk⟩
theorem Ty.drewN {C : TypeId → Bool} {w w' : World} (h : Ty C w w') (n : Nat) : Ty C w (w'.drewN n) := ⟨h.os, h.tape, h.output, h.size, h.block⟩
theorem ty_set {C : TypeId → Bool} {w : World} {b i : Nat} {t : TypeId} {vs : List Value} (h : RowAt w b t vs) (hC : C t = true) (v : Value) : Ty C w (w.setCell ⟨b, i, none⟩ v) := by
  refine ⟨rfl, rfl, rfl, by simp, fun k cur T hT hk => ?_⟩
  rw [heap_setCell_other w _ k v ?_]
  · exact hk
  · intro e
    have h' : w.heap[k]? = some (.cells vs.toArray t (0, 0)) := by rw [show k = b from e]; exact h
    rw [h'] at hk
    injection hk with h1
    injection h1 with h2 h3
    subst h3
    rw [hC] at hT
    cases hT
theorem ty_grown {C : TypeId → Bool} {w w' : World} {B e c n : Nat} {v : Value} {xs : List Value} (hown : w.ownsRow B e c v n xs) (hg : w.grownBy w' v.ownBlock) (hC : C e = true) : Ty C w w' := by
  refine ⟨hg.os, hg.tape, hg.output, hg.size, fun k cur t ht hk => ?_⟩
  rw [hg.block k (lt_of_block hk) ?_]
  · exact hk
  · intro he
    rcases hown.2 with ⟨rfl, -⟩ | ⟨g, cap, cur', rfl, -, hgg, -⟩
    · cases he
    · simp only [Value.ownBlock, Option.some.injEq] at he
      subst he
      rw [hk] at hgg
      injection hgg with h1
      injection h1 with h2 h3
      subst h3
      rw [hC] at ht
      cases ht
theorem RowAt.later {w w' : World} {b : Nat} {t : TypeId} {vs : List Value} (h : RowAt w b t vs) (hb : Below w.heap.size w w') : RowAt w' b t vs := h.below hb h.lt

/-- A row of groups, c cells each. -/
def gc (f : Nat → List Value) : List Value := (List.range 64).flatMap f
theorem flat_at (f : Nat → List Value) (c : Nat) (hf : ∀ k, (f k).length = c) (L : List Nat) (j i : Nat) (hj : j < L.length) (hi : i < c) : (L.flatMap f)[j * c + i]? = (f L[j])[i]? := by
  induction L generalizing j with
  | nil => simp at hj
  | cons e L ih =>
    have hl := hf e
    rw [List.flatMap_cons]
    cases j with
    | zero =>
      rw [Nat.zero_mul, Nat.zero_add, List.getElem?_append_left (by omega)]
      rfl
    | succ j =>
      have h1 : (j + 1) * c = j * c + c := Nat.succ_mul j c
      rw [List.getElem?_append_right (by omega), hl]
      have : (j + 1) * c + i - c = j * c + i := by omega
      rw [this, ih j (by simpa using hj)]
      rfl
theorem flat_len (f : Nat → List Value) (c : Nat) (hf : ∀ k, (f k).length = c) (L : List Nat) : (L.flatMap f).length = L.length * c := by
  induction L with
  | nil => simp
  | cons e L ih => rw [List.flatMap_cons, List.length_append, ih, hf, List.length_cons, Nat.succ_mul]; omega
theorem gc_len (f : Nat → List Value) (c : Nat) (hf : ∀ k, (f k).length = c) : (gc f).length = 64 * c := by
  unfold gc
  rw [flat_len f c hf, List.length_range]
theorem gc_at (f : Nat → List Value) (c : Nat) (hf : ∀ k, (f k).length = c) (j i : Nat) (hj : j < 64) (hi : i < c) : (gc f)[j * c + i]? = (f j)[i]? := by
  unfold gc
  rw [flat_at f c hf _ j i (by simpa using hj) hi, List.getElem_range]
theorem gc_set (f f' : Nat → List Value) (c : Nat) (hf : ∀ k, (f k).length = c) (hf' : ∀ k, (f' k).length = c) (k i : Nat) (hk : k < 64) (hi : i < c) (v : Value)
    (h1 : f' k = (f k).set i v) (h2 : ∀ j, j ≠ k → f' j = f j) : (gc f).set (k * c + i) v = gc f' := by
  have hc : 0 < c := by omega
  apply List.ext_getElem?
  intro m
  by_cases hm : m < 64 * c
  · obtain ⟨j, r, hj, hr, rfl⟩ : ∃ j r, j < 64 ∧ r < c ∧ m = j * c + r := by
      refine ⟨m / c, m % c, ?_, Nat.mod_lt _ hc, ?_⟩
      · rw [Nat.div_lt_iff_lt_mul hc]; exact hm
      · rw [Nat.mul_comm]; exact (Nat.div_add_mod m c).symm
    rw [List.getElem?_set, gc_at f' c hf' j r hj hr, gc_at f c hf j r hj hr, gc_len f c hf]
    by_cases hjk : j = k
    · subst hjk
      rw [h1, List.getElem?_set, hf]
      by_cases hri : r = i
      · subst hri
        rw [if_pos rfl, if_pos (by omega), if_pos rfl, if_pos hr]
      · rw [if_neg (by omega), if_neg (fun e => hri e.symm)]
    · rw [h2 j hjk, if_neg]
      intro e
      apply hjk
      have e1 : (k * c + i) / c = k := by rw [Nat.mul_comm, Nat.mul_add_div hc, Nat.div_eq_of_lt hi]; omega
      have e2 : (j * c + r) / c = j := by rw [Nat.mul_comm, Nat.mul_add_div hc, Nat.div_eq_of_lt hr]; omega
      rw [← e1, ← e2, e]
  · rw [List.getElem?_eq_none (by rw [List.length_set, gc_len f c hf]; omega), List.getElem?_eq_none (by rw [gc_len f' c hf']; omega)]

def ac (S : Cs) (k : Nat) : List Value := [.int .i64 (S.u k), .int .i64 (S.l k), .int .i64 (S.f k), .int .i64 (S.p k)]
def cc (S : Cs) : List Value := gc (ac S)
theorem cc_at (S : Cs) (j i : Nat) (hj : j < 64) (hi : i < 4) : (cc S)[j * 4 + i]? = (ac S j)[i]? := gc_at (ac S) 4 (fun _ => rfl) j i hj hi
theorem upd_nat (f : Int → Int) (v : Int) {j k : Nat} (h : j ≠ k) : upd f (k : Int) v (j : Int) = f j := upd_other f v (by omega)
theorem cc_u (S : Cs) (k : Nat) (v : Int) (hk : k < 64) : (cc S).set (k * 4) (.int .i64 v) = cc ⟨upd S.u k v, S.l, S.f, S.p⟩ :=
  gc_set (ac S) (ac ⟨upd S.u k v, S.l, S.f, S.p⟩) 4 (fun _ => rfl) (fun _ => rfl) k 0 hk (by omega) _ (by simp [ac, upd_same]) fun j hj => by simp [ac, upd_nat _ _ hj]
theorem cc_l (S : Cs) (k : Nat) (v : Int) (hk : k < 64) : (cc S).set (k * 4 + 1) (.int .i64 v) = cc ⟨S.u, upd S.l k v, S.f, S.p⟩ :=
  gc_set (ac S) (ac ⟨S.u, upd S.l k v, S.f, S.p⟩) 4 (fun _ => rfl) (fun _ => rfl) k 1 hk (by omega) _ (by simp [ac, upd_same]) fun j hj => by simp [ac, upd_nat _ _ hj]
theorem cc_f (S : Cs) (k : Nat) (v : Int) (hk : k < 64) : (cc S).set (k * 4 + 2) (.int .i64 v) = cc ⟨S.u, S.l, upd S.f k v, S.p⟩ :=
  gc_set (ac S) (ac ⟨S.u, S.l, upd S.f k v, S.p⟩) 4 (fun _ => rfl) (fun _ => rfl) k 2 hk (by omega) _ (by simp [ac, upd_same]) fun j hj => by simp [ac, upd_nat _ _ hj]
theorem cc_p (S : Cs) (k : Nat) (v : Int) (hk : k < 64) : (cc S).set (k * 4 + 3) (.int .i64 v) = cc ⟨S.u, S.l, S.f, upd S.p k v⟩ :=
  gc_set (ac S) (ac ⟨S.u, S.l, S.f, upd S.p k v⟩) 4 (fun _ => rfl) (fun _ => rfl) k 3 hk (by omega) _ (by simp [ac, upd_same]) fun j hj => by simp [ac, upd_nat _ _ hj]

/-- The program's counter at block c, which is not below B; behind at most N fails. -/
structure CtIs (B N : Nat) (w : World) (c : Nat) (S : Cs) : Prop where
  row : RowAt w c 49 (cc S)
  lo : B ≤ c
  ok : OkC N S
section
variable {B N : Nat} {w w' : World} {c : Nat} {S : Cs}
theorem CtIs.below (h : CtIs B N w c S) (hb : Below w.heap.size w w') : CtIs B N w' c S := ⟨h.row.below hb h.row.lt, h.lo, h.ok⟩
theorem CtIs.ty {C : TypeId → Bool} (h : CtIs B N w c S) (hT : Ty C w w') (h1 : C 49 = false) : CtIs B N w' c S := ⟨h.row.ty hT h1, h.lo, h.ok⟩
theorem CtIs.at (h : CtIs B N w c S) {k : Nat} (hk : k < 64) : w.cell? ⟨c, k * 4, none⟩ = some (.int .i64 (S.u k)) ∧ w.cell? ⟨c, k * 4 + 1, none⟩ = some (.int .i64 (S.l k)) ∧ w.cell? ⟨c, k * 4 + 2, none⟩ = some (.int .i64 (S.f k)) ∧ w.cell? ⟨c, k * 4 + 3, none⟩ = some (.int .i64 (S.p k)) := by
  refine ⟨?_, ?_, ?_, ?_⟩
  · rw [h.row.cell]; exact cc_at S k 0 hk (by omega)
  · rw [h.row.cell]; exact cc_at S k 1 hk (by omega)
  · rw [h.row.cell]; exact cc_at S k 2 hk (by omega)
  · rw [h.row.cell]; exact cc_at S k 3 hk (by omega)
theorem CtIs.lt (h : CtIs B N w c S) : c < w.heap.size := h.row.lt
end

theorem pgrp (x : Int) (w : World) : Calls Try.prog 32 #[.int .i64 x] w fun e w' => e = .returned (.bool (isG x)) ∧ w' = w := by
  have HQ : Hid (isG x = (decide (0 ≤ x) && decide (x < 64))) := rfl
  by_cases h : 0 ≤ x
  · go_enter Try.func32, Try.ntmps32
    go_wp2
    go_ret
    exact ⟨by rw [HQ.out]; simp [h], rfl⟩
  · have hd : decide (0 ≤ x) = false := by simp; omega
    go_enter Try.func32, Try.ntmps32
    go_wp2
    go_ret
    exact ⟨by rw [HQ.out, hd]; rfl, rfl⟩
theorem pamt (x : Int) (w : World) : Calls Try.prog 33 #[.int .i64 x] w fun e w' => e = .returned (.bool (isA x)) ∧ w' = w := by
  have HQ : Hid (isA x = (decide (0 ≤ x) && decide (x ≤ 1099511627776))) := rfl
  by_cases h : 0 ≤ x
  · go_enter Try.func33, Try.ntmps33
    go_wp2
    go_ret
    exact ⟨by rw [HQ.out]; simp [h], rfl⟩
  · have hd : decide (0 ≤ x) = false := by simp; omega
    go_enter Try.func33, Try.ntmps33
    go_wp2
    go_ret
    exact ⟨by rw [HQ.out, hd]; rfl, rfl⟩

theorem HG : Hid (∀ (x : Int) (w : World), Calls Try.prog 32 #[.int .i64 x] w fun e w' => e = .returned (.bool (isG x)) ∧ w' = w) := pgrp

theorem under46 : Try.prog.underlying 46 = some (.struct (Try.prog.fieldsOf 46)) := by kernel_rfl
theorem res4 {fn : Func} {p : Tmp} (h : fn.results = #[.cell p 46]) (tmps : Array Value) (w : World) (g : Nat) (v0 v1 v2 v3 : Value)
    (hp : tmps.getD p undef = .pointer (some ⟨g, 0, none⟩)) (hg : RowAt w g 46 [v0, v1, v2, v3]) : (results fn tmps).run Try.prog w = .ok (.agg #[v0, v1, v2, v3]) w :=
  results_cell_row h tmps w g 46 #[v0, v1, v2, v3] (0, 0) _ hp hg under46 rfl (by kernel_rfl)

set_option maxHeartbeats 4000000 in
theorem pof (B N c : Nat) (S : Cs) (x : Int) (w : World) (h : CtIs B N w c S) :
    Calls Try.prog 27 #[.pointer (some ⟨c, 0, none⟩), .int .i64 x] w fun e w' => e = .returned (.agg #[.int .i64 (S.u x), .int .i64 (S.l x), .int .i64 (S.f x), .int .i64 (S.p x)]) ∧ Below w.heap.size w w' := by
  have HGx := HG
  have hnew := RowAt.new w #[.int .i64 0, .int .i64 0, .int .i64 0, .int .i64 0] 46
  cases hg : isG x with
  | false =>
    obtain ⟨e1, e2, e3, e4⟩ := h.ok.out x hg
    rw [e1, e2, e3, e4]
    have HN : Hid (RowAt (w.alloc (.cells #[.int .i64 0, .int .i64 0, .int .i64 0, .int .i64 0] 46)) w.heap.size 46 [.int .i64 0, .int .i64 0, .int .i64 0, .int .i64 0]) := hnew
    clear e1 e2 e3 e4 h hnew
    go_enter Try.func27, Try.ntmps27
    go_wp2_with fail
    refine (HGx.out _ _).mono ?_
    rintro e w1 ⟨rfl, rfl⟩
    rw [hg]
    clear hg
    go_wp2_with fail
    refine bodyPost_ret (res4 rfl _ _ _ _ _ _ _ rfl HN.out) rfl ?_
    exact ⟨rfl, below_alloc _ _⟩
  | true =>
    obtain ⟨k, rfl⟩ := Int.eq_ofNat_of_zero_le (isG_iff.1 hg).1
    have hk : k < 64 := by have := (isG_iff.1 hg).2; omega
    obtain ⟨c0, c1, c2, c3⟩ := h.at hk
    obtain ⟨v0, e0⟩ : ∃ v, v = S.u k := ⟨_, rfl⟩
    obtain ⟨v1, e1⟩ : ∃ v, v = S.l k := ⟨_, rfl⟩
    obtain ⟨v2, e2⟩ : ∃ v, v = S.f k := ⟨_, rfl⟩
    obtain ⟨v3, e3⟩ : ∃ v, v = S.p k := ⟨_, rfl⟩
    rw [← e0] at c0 ⊢
    rw [← e1] at c1 ⊢
    rw [← e2] at c2 ⊢
    rw [← e3] at c3 ⊢
    have hclt := h.lt
    clear e0 e1 e2 e3 h
    go_enter Try.func27, Try.ntmps27
    go_wp2_with fail
    refine (HGx.out _ _).mono ?_
    rintro e w1 ⟨rfl, rfl⟩
    rw [hg]
    clear hg
    have k0 := cell_later (below_alloc w (.cells #[.int .i64 0, .int .i64 0, .int .i64 0, .int .i64 0] 46)) c0
    have k1 := cell_later (below_alloc w (.cells #[.int .i64 0, .int .i64 0, .int .i64 0, .int .i64 0] 46)) c1
    have k2 := cell_later (below_alloc w (.cells #[.int .i64 0, .int .i64 0, .int .i64 0, .int .i64 0] 46)) c2
    have k3 := cell_later (below_alloc w (.cells #[.int .i64 0, .int .i64 0, .int .i64 0, .int .i64 0] 46)) c3
    go_wp2_with fail
    refine bodyPost_ret (res4 rfl _ _ _ _ _ _ _ rfl (RowAt.new w #[.int .i64 v0, .int .i64 v1, .int .i64 v2, .int .i64 v3] 46)) rfl ?_
    exact ⟨rfl, below_alloc _ _⟩
theorem plain3 : Try.prog.plainKey 3 = true := by kernel_rfl
theorem field46 (v0 v1 v2 v3 v : Value) (i : Nat) (hi : i < 4) (w : World) (h : (#[v0, v1, v2, v3] : Array Value)[i]? = some v) : (Instr.field 46 (.agg #[v0, v1, v2, v3]) i).run Try.prog w = .ok v w := by
  have p := run_part_plain (P := Try.prog) w plain3 (xs := #[v0, v1, v2, v3]) (off := i) (v := v) h
  have : i = 0 ∨ i = 1 ∨ i = 2 ∨ i = 3 := by omega
  rcases this with rfl | rfl | rfl | rfl <;> simp [Instr.field, run_underlying Try.underlying46, asAgg, p]
theorem puse (B N c : Nat) (S : Cs) (x : Int) (w : World) (h : CtIs B N w c S) :
    Calls Try.prog 19 #[.pointer (some ⟨c, 0, none⟩), .int .i64 x] w fun e w' => e = .returned (.int .i64 (S.u x)) ∧ Below w.heap.size w w' := by
  have HO : Hid (∀ w, CtIs B N w c S → Calls Try.prog 27 #[.pointer (some ⟨c, 0, none⟩), .int .i64 x] w fun e w' => e = .returned (.agg #[.int .i64 (S.u x), .int .i64 (S.l x), .int .i64 (S.f x), .int .i64 (S.p x)]) ∧ Below w.heap.size w w') := fun w h => pof B N c S x w h
  obtain ⟨v0, e0⟩ : ∃ v, v = S.u x := ⟨_, rfl⟩
  obtain ⟨v1, e1⟩ : ∃ v, v = S.l x := ⟨_, rfl⟩
  obtain ⟨v2, e2⟩ : ∃ v, v = S.f x := ⟨_, rfl⟩
  obtain ⟨v3, e3⟩ : ∃ v, v = S.p x := ⟨_, rfl⟩
  rw [← e0, ← e1, ← e2, ← e3] at HO
  rw [← e0]
  clear e0 e1 e2 e3
  have hf := fun w => field46 (.int .i64 v0) (.int .i64 v1) (.int .i64 v2) (.int .i64 v3) (.int .i64 v0) 0 (by omega) w rfl
  go_enter Try.func19, Try.ntmps19
  go_wp2_with fail
  refine (HO.out _ h).mono ?_
  rintro e w1 ⟨rfl, hb⟩
  go_wp2_with fail
  go_ret
  exact ⟨rfl, hb⟩
theorem plim (B N c : Nat) (S : Cs) (x : Int) (w : World) (h : CtIs B N w c S) :
    Calls Try.prog 20 #[.pointer (some ⟨c, 0, none⟩), .int .i64 x] w fun e w' => e = .returned (.int .i64 (S.l x)) ∧ Below w.heap.size w w' := by
  have HO : Hid (∀ w, CtIs B N w c S → Calls Try.prog 27 #[.pointer (some ⟨c, 0, none⟩), .int .i64 x] w fun e w' => e = .returned (.agg #[.int .i64 (S.u x), .int .i64 (S.l x), .int .i64 (S.f x), .int .i64 (S.p x)]) ∧ Below w.heap.size w w') := fun w h => pof B N c S x w h
  obtain ⟨v0, e0⟩ : ∃ v, v = S.u x := ⟨_, rfl⟩
  obtain ⟨v1, e1⟩ : ∃ v, v = S.l x := ⟨_, rfl⟩
  obtain ⟨v2, e2⟩ : ∃ v, v = S.f x := ⟨_, rfl⟩
  obtain ⟨v3, e3⟩ : ∃ v, v = S.p x := ⟨_, rfl⟩
  rw [← e0, ← e1, ← e2, ← e3] at HO
  rw [← e1]
  clear e0 e1 e2 e3
  have hf := fun w => field46 (.int .i64 v0) (.int .i64 v1) (.int .i64 v2) (.int .i64 v3) (.int .i64 v1) 1 (by omega) w rfl
  go_enter Try.func20, Try.ntmps20
  go_wp2_with fail
  refine (HO.out _ h).mono ?_
  rintro e w1 ⟨rfl, hb⟩
  go_wp2_with fail
  go_ret
  exact ⟨rfl, hb⟩
theorem pfail (B N c : Nat) (S : Cs) (x : Int) (w : World) (h : CtIs B N w c S) :
    Calls Try.prog 21 #[.pointer (some ⟨c, 0, none⟩), .int .i64 x] w fun e w' => e = .returned (.int .i64 (S.f x)) ∧ Below w.heap.size w w' := by
  have HO : Hid (∀ w, CtIs B N w c S → Calls Try.prog 27 #[.pointer (some ⟨c, 0, none⟩), .int .i64 x] w fun e w' => e = .returned (.agg #[.int .i64 (S.u x), .int .i64 (S.l x), .int .i64 (S.f x), .int .i64 (S.p x)]) ∧ Below w.heap.size w w') := fun w h => pof B N c S x w h
  obtain ⟨v0, e0⟩ : ∃ v, v = S.u x := ⟨_, rfl⟩
  obtain ⟨v1, e1⟩ : ∃ v, v = S.l x := ⟨_, rfl⟩
  obtain ⟨v2, e2⟩ : ∃ v, v = S.f x := ⟨_, rfl⟩
  obtain ⟨v3, e3⟩ : ∃ v, v = S.p x := ⟨_, rfl⟩
  rw [← e0, ← e1, ← e2, ← e3] at HO
  rw [← e2]
  clear e0 e1 e2 e3
  have hf := fun w => field46 (.int .i64 v0) (.int .i64 v1) (.int .i64 v2) (.int .i64 v3) (.int .i64 v2) 2 (by omega) w rfl
  go_enter Try.func21, Try.ntmps21
  go_wp2_with fail
  refine (HO.out _ h).mono ?_
  rintro e w1 ⟨rfl, hb⟩
  go_wp2_with fail
  go_ret
  exact ⟨rfl, hb⟩
theorem ppeak (B N c : Nat) (S : Cs) (x : Int) (w : World) (h : CtIs B N w c S) :
    Calls Try.prog 22 #[.pointer (some ⟨c, 0, none⟩), .int .i64 x] w fun e w' => e = .returned (.int .i64 (S.p x)) ∧ Below w.heap.size w w' := by
  have HO : Hid (∀ w, CtIs B N w c S → Calls Try.prog 27 #[.pointer (some ⟨c, 0, none⟩), .int .i64 x] w fun e w' => e = .returned (.agg #[.int .i64 (S.u x), .int .i64 (S.l x), .int .i64 (S.f x), .int .i64 (S.p x)]) ∧ Below w.heap.size w w') := fun w h => pof B N c S x w h
  obtain ⟨v0, e0⟩ : ∃ v, v = S.u x := ⟨_, rfl⟩
  obtain ⟨v1, e1⟩ : ∃ v, v = S.l x := ⟨_, rfl⟩
  obtain ⟨v2, e2⟩ : ∃ v, v = S.f x := ⟨_, rfl⟩
  obtain ⟨v3, e3⟩ : ∃ v, v = S.p x := ⟨_, rfl⟩
  rw [← e0, ← e1, ← e2, ← e3] at HO
  rw [← e3]
  clear e0 e1 e2 e3
  have hf := fun w => field46 (.int .i64 v0) (.int .i64 v1) (.int .i64 v2) (.int .i64 v3) (.int .i64 v3) 3 (by omega) w rfl
  go_enter Try.func22, Try.ntmps22
  go_wp2_with fail
  refine (HO.out _ h).mono ?_
  rintro e w1 ⟨rfl, hb⟩
  go_wp2_with fail
  go_ret
  exact ⟨rfl, hb⟩

/-- What a new counter is before its limits are set. -/
def zer : Array Value := (List.replicate 256 (Value.int .i64 0)).toArray
theorem run_build49 (w : World) : (Instr.build 49 #[]).run Try.prog w = .ok (.agg zer) w := run_build (P := Try.prog) w 49 _ _ (by kernel_rfl)
theorem wpList_build49 {ops : Array Oper} {rest : List Oper} {o : Oper} {a : Act} {w : World} {Q : Exit → Act → World → Prop} (hg : o.guard = none) (hop : o.op = Op.build 49 #[])
    (hK : wpList Try.prog ops Q rest (a.put o.dst (.agg zer)) w) : wpList Try.prog ops Q (o :: rest) a w := by
  refine wpList_plain hg fun K hK' => ?_
  have := run_build49 w
  unfold Oper.wp
  simp [execOp, hop, this, Result.andThen]
  exact hK' _ _ hK
def newS (i : Nat) : Cs := ⟨fun _ => 0, fun x => if 0 ≤ x ∧ x < i then 1099511627776 else 0, fun _ => 0, fun _ => 0⟩
theorem newS_zero : zer.toList = cc (newS 0) := by
  have e : ac (newS 0) = fun _ => [Value.int .i64 0, Value.int .i64 0, Value.int .i64 0, Value.int .i64 0] := by
    funext k
    have : ¬ (0 ≤ (k : Int) ∧ (k : Int) < ((0 : Nat) : Int)) := by omega
    simp only [ac, newS, this, if_false]
  unfold cc
  rw [e]
  have h : zer.toList = gc (fun _ => [Value.int .i64 0, Value.int .i64 0, Value.int .i64 0, Value.int .i64 0]) := by kernel_rfl
  exact h
theorem newS_succ (i : Nat) (hi : i < 64) : (cc (newS i)).set (i * 4 + 1) (.int .i64 1099511627776) = cc (newS (i + 1)) := by
  rw [cc_l _ i _ hi]
  congr 1
  simp only [newS]
  congr 1
  funext x
  show (if x = (i : Int) then (1099511627776 : Int) else if 0 ≤ x ∧ x < (i : Int) then 1099511627776 else 0) = if 0 ≤ x ∧ x < ((i + 1 : Nat) : Int) then 1099511627776 else 0
  by_cases h : x = (i : Int)
  · rw [if_pos h, if_pos (by omega)]
  · rw [if_neg h]
    by_cases h2 : 0 ≤ x ∧ x < (i : Int)
    · rw [if_pos h2, if_pos (by omega)]
    · rw [if_neg h2, if_neg (by omega)]
theorem newS_all : newS 64 = newC := by
  unfold newS newC
  congr 1
  funext x
  cases h : isG x with
  | true => exact if_pos (isG_iff.1 h)
  | false => exact if_neg (isG_no.1 h)

set_option maxHeartbeats 4000000 in
theorem pnew (w : World) : Calls Try.prog 11 #[] w fun e w' => ∃ c, e = .returned (.pointer (some ⟨c, 0, none⟩)) ∧ CtIs w.heap.size 0 w' c newC ∧ Below w.heap.size w w' := by
  have hr := RowAt.new w zer 49
  rw [newS_zero] at hr
  have hb0 := below_alloc w (.cells zer 49)
  have HR : Hid (RowAt (w.alloc (.cells zer 49)) w.heap.size 49 (cc (newS 0))) := hr
  have HB : Hid (Below w.heap.size w (w.alloc (.cells zer 49))) := hb0
  clear hr hb0
  go_enter Try.func11, Try.ntmps11
  go_wp2_with (refine wpList_build49 rfl rfl ?_)
  go_loopw [5] (fun s5 wr => ∃ i : Nat, i ≤ 64 ∧ s5 = .int .i64 i ∧ RowAt wr w.heap.size 49 (cc (newS i)) ∧ Below w.heap.size w wr) (fun s5 _ => 64 - (intOf s5).toNat)
  case atStart => exact ⟨0, by omega, rfl, HR.out, HB.out⟩
  case round =>
    obtain ⟨i, hi, rfl, hrow, hb⟩ := hrel
    by_cases hlt : i < 64
    · have hd : decide ((i : Int) < 64) = true := by simp; omega
      have hn := hrow.set (i * 4 + 1) (.int .i64 1099511627776)
      rw [newS_succ i hlt] at hn
      have HN : Hid (RowAt (wr.setCell ⟨w.heap.size, i * 4 + 1, none⟩ (.int .i64 1099511627776)) w.heap.size 49 (cc (newS (i + 1)))) := hn
      have HB2 : Hid (Below w.heap.size w (wr.setCell ⟨w.heap.size, i * 4 + 1, none⟩ (.int .i64 1099511627776))) := hb.setCell (p := ⟨w.heap.size, i * 4 + 1, none⟩) (Nat.le_refl _) _
      have h0 : wr.cell? ⟨w.heap.size, i * 4 + 1, none⟩ = some (.int .i64 ((newS i).l i)) := by rw [hrow.cell]; exact cc_at _ i 1 hlt (by omega)
      have f0 := hrow.frozen (i * 4 + 1)
      clear hn hb hrow HR HB
      go_wp2_with fail
      exact ⟨⟨i + 1, by omega, by go_num, HN.out, HB2.out⟩, by simp [intOf]; omega⟩
    · obtain rfl : i = 64 := by omega
      have hd : decide (((64 : Nat) : Int) < 64) = false := by simp
      rw [newS_all] at hrow
      clear HR HB
      go_wp2_with fail
      go_ret
      exact ⟨_, rfl, ⟨hrow, Nat.le_refl _, ok_new 0⟩, hb⟩
end Go.Proofs.Ytpageadhmgoddaa
