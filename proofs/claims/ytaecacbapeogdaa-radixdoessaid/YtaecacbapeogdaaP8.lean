/-
  A range over a method value whose body goes on; the contract of Walk.
-/
import Derived.RangeFuncBox
import Derived.Maps.AppendAt
import Derived.Test.YtaecacbapeogdaaP7
namespace Go.Proofs.Ytaecacbapeogdaa
open Go.RowKit Go.Shelf
attribute [local go_sem] Oper.semAt_some

theorem kp_refl (A : World) : Kp62 A A := fun _ _ h => h
theorem kp_trans {A B C : World} (h : Kp62 A B) (k : Kp62 B C) : Kp62 A C := fun i cs hi => k i cs (h i cs hi)
theorem kp_put {A : World} {l : Nat} {o o' : Obj} (h : A.heap[l]? = some o) (hc : o.isCells = false) : Kp62 A (A.putObj l o') := by
  intro k cs hk
  have : k ≠ l := by
    rintro rfl
    rw [h] at hk
    cases hk
    cases hc
  rw [World.putObj_heap_other this]
  exact hk

/-- 'for x := range m', m a method value of func gf at fs, whose body always goes on. -/
theorem range_bound {P : Program} {g : Operand} {ps : Array Tmp} {assign body : Code} {Q : Exit → Act → World → Prop} {a : Act} {w : World} (gf : Nat) (fs : Array Value) (hg : a.eval g = .func (.func gf) fs #[])
    (eg : ∀ args w, (callFunc gf args).run P w = .ok (.enter gf args) w) (hps : ps.size = 1) (S G : List Nat → Prop) (I : List Nat → World → Prop)
    (hseq : ∀ (l : Nat) (J : List Nat → World → Prop) (W : World), (∀ s A o, J s A → J s (A.alloc o)) → (∀ s A d, J s A → J s (A.drewN d)) → (∀ s A, J s A → I s A) →
      (∀ pre (x : Nat) W, J pre W → G pre → YieldAt Fence.wide 2 P l #[.int .i64 x] W fun e W' => e = .returned (.bool true) ∧ J (pre ++ [x]) W' ∧ Kp62 W W') → J [] W →
      CallsIn Fence.wide 3 P gf (fs ++ #[.func (.yield l) #[] #[]]) W fun e W' => (∃ v, e = .returned v) ∧ ∃ xs, S xs ∧ J xs W')
    (hIa : ∀ s A o, I s A → I s (A.alloc o)) (hId : ∀ s A d, I s A → I s (A.drewN d))
    (hIp : ∀ s A l o o', w.heap.size ≤ l → A.heap[l]? = some o → o.isCells = false → I s A → I s (A.putObj l o'))
    (h0 : I [] w) (a₁ : Nat → Act)
    (hassign : ∀ (l x : Nat) (W : World) (K : Act → World → Prop), K (a₁ x) W → assign.wpIn (Fence.wide.inRound l) 2 P (Exit.then K (fun _ _ _ => False)) { tmps := (ps.zip #[Value.int .i64 x]).foldl (fun t (p, v) => t.setIfInBounds p v) a.tmps, defers := [] } W)
    (hbody : ∀ (l : Nat) (pre : List Nat) (x : Nat) (W : World), I pre W → G pre → body.wpIn (Fence.wide.inRound l) 2 P (fun e _ W' => e = .normal ∧ KeepsOthers W W' ∧ Kp62 W W' ∧ I (pre ++ [x]) W') (a₁ x) W)
    (hdone : ∀ (D : Nat) (xs : List Nat) (W : World), w.heap.size ≤ D → S xs → I xs W → W.heap[D]? = some (.deferred (some [])) → Q .normal { a with defers := { target := .collected D, args := #[] } :: a.defers } W) :
    (Code.rangeFunc g ps assign body).wpIn Fence.wide 4 P Q a w := by
  refine wpIn_rangeFunc fun fn _ => ?_
  obtain ⟨D, hD⟩ : ∃ D, D = w.heap.size := ⟨_, rfl⟩
  obtain ⟨r0, hr0⟩ : ∃ r0 : Loop, r0 = { state := .ready, pending := none, fn, tmps := a.tmps, params := ps, assign, body, defers := w.heap.size } := ⟨_, rfl⟩
  obtain ⟨W1, hW1⟩ : ∃ W1, W1 = (w.alloc (.deferred (some []))).alloc (.loop r0) := ⟨_, rfl⟩
  have hrec : W1.heap[D + 1]? = some (.loop r0) := by
    have := World.alloc_heap_new (w.alloc (.deferred (some []))) (.loop r0)
    rw [World.size_alloc] at this
    rw [hW1, hD]
    exact this
  have hdef : W1.heap[D]? = some (.deferred (some [])) := by
    rw [hW1, hD]
    exact (Below.heap_alloc _ _ _ (by simp)).trans (World.alloc_heap_new w _)
  refine ⟨D + 1, [{ target := .collected D, args := #[] }], W1, { target := .fn (.func gf) #[], args := fs ++ #[.func (.yield (D + 1)) #[] #[]] }, W1, gf, fs ++ #[.func (.yield (D + 1)) #[] #[]], W1, ?_, ?_, fun _ _ => trivial, ?_, fun _ => by omega, ?_⟩
  · rw [hW1, hr0, hD]
    exact run_enterLoop_outer _ _ _ _ _
  · simp only [resolve, hg]
    simp [Deferred.ofValue]
    rfl
  · simp [invoke, eg]
  · refine (hseq (D + 1) (fun s W => I s W ∧ W.heap[D + 1]? = some (.loop r0) ∧ W.heap[D]? = some (.deferred (some []))) W1 ?_ ?_ (fun s A h => h.1) ?_ ⟨?_, hrec, hdef⟩).mono ?_
    · rintro s A o ⟨h1, h2, h3⟩
      exact ⟨hIa s A o h1, (Below.heap_alloc _ _ _ (Array.getElem?_eq_some_iff.1 h2).1).trans h2, (Below.heap_alloc _ _ _ (Array.getElem?_eq_some_iff.1 h3).1).trans h3⟩
    · rintro s A d ⟨h1, h2, h3⟩
      exact ⟨hId s A d h1, h2, h3⟩
    · rintro pre x W ⟨h1, h2, h3⟩ hG
      have hlt : D + 1 < W.heap.size := (Array.getElem?_eq_some_iff.1 h2).1
      have hy := run_yield (P := P) (args := #[Value.int .i64 x]) h2 (by rw [hr0]; exact hps.symm)
      have hbr := run_beginRound (P := P) h2 (by rw [hr0])
      obtain ⟨r1, hr1⟩ : ∃ r1 : Loop, r1 = { r0 with state := .busy } := ⟨_, rfl⟩
      rw [← hr1] at hbr
      refine ⟨_, _, _, _, hy, roundIn_of_wpIn trivial ?_⟩
      have ha := hassign (D + 1) x W (fun a₁ w₁ => ∃ w₂, (Instr.beginRound (D + 1)).run P w₁ = .ok () w₂ ∧ body.wpIn (Fence.wide.inRound (D + 1)) 2 P (roundPost P (D + 1) fun e W' => e = .returned (.bool true) ∧ (I (pre ++ [x]) W' ∧ W'.heap[D + 1]? = some (.loop r0) ∧ W'.heap[D]? = some (.deferred (some []))) ∧ Kp62 W W') a₁ w₂) ?_
      · rw [hr0]
        rw [hr0] at ha
        exact ha
      · refine ⟨_, hbr, ?_⟩
        have h2' : (W.putObj (D + 1) (.loop r1)).heap[D + 1]? = some (.loop r1) := World.putObj_heap_same hlt
        have h3' : (W.putObj (D + 1) (.loop r1)).heap[D]? = some (.deferred (some [])) := (World.putObj_heap_other (by omega)).trans h3
        refine wpIn_mono (hbody (D + 1) pre x _ (hIp _ _ _ _ _ (by omega) h2 rfl h1) hG) ?_
        rintro e a3 W3 ⟨rfl, hk, hk62, hI3⟩
        have hl3 := hk.same _ _ h2' rfl
        have her := run_endRound (P := P) none hl3
        refine ⟨_, _, her, rfl, ⟨hIp _ _ _ _ _ (by omega) hl3 rfl hI3, ?_, ?_⟩, kp_trans (kp_trans (kp_put h2 rfl) hk62) (kp_put hl3 rfl)⟩
        · rw [World.putObj_heap_same (Array.getElem?_eq_some_iff.1 hl3).1, hr1, hr0]
          rfl
        · rw [World.putObj_heap_other (by omega)]
          exact hk.same _ _ h3' rfl
    · rw [hW1]
      exact hIa _ _ _ (hIa _ _ _ h0)
    · rintro e W2 ⟨⟨v, rfl⟩, xs, hS, hI2, hl2, hd2⟩
      refine ⟨none, _, ?_, hdone D xs _ (by omega) hS (hIp _ _ _ _ (.loop { r0 with state := .exhausted }) (by omega) hl2 rfl hI2) ?_⟩
      · have := run_endLoop (P := P) hl2 (by rw [hr0]; simp)
        rw [hr0] at this ⊢
        exact this
      · rw [World.putObj_heap_other (by omega)]
        exact hd2

/-- A slice of a block of its own. -/
theorem own_form {w : World} {B e c n : Nat} {v : Value} {xs : List Value} (h : w.ownsRow B e c v n xs) :
    ∃ a cap, v = .slice a n cap ∧ (0 < n → ∃ g, a = some ⟨g, 0, none⟩ ∧ ∀ j, j < n * c → w.cell? ⟨g, j, none⟩ = xs[j]?) := by
  rcases h.2 with ⟨rfl, rfl⟩ | ⟨g, cap, cur, rfl, _⟩
  · exact ⟨none, 0, rfl, fun h => by omega⟩
  · exact ⟨_, cap, rfl, fun _ => ⟨g, rfl, fun j hj => h.cellAt j hj⟩⟩
theorem own_turn {w w' : World} {B e c n : Nat} {v : Value} {xs : List Value} (h : w.ownsRow B e c v n xs) (hb : ∀ k, B ≤ k → k < w.heap.size → w'.heap[k]? = w.heap[k]?) : w'.ownsRow B e c v n xs := by
  refine ⟨h.1, ?_⟩
  rcases h.2 with hn | ⟨g, cap, cur, rfl, hg, hgg, rest⟩
  · exact .inl hn
  · exact .inr ⟨g, cap, cur, rfl, hg, (hb g hg (lt_of_block hgg)).trans hgg, rest⟩

def iv (p : Nat) : Value := .int .i64 p
theorem info3 : (Try.prog.info? 3).map (fun i => (i.zero, i.size, i.bytes)) = some (some (.int .i64 0), 1, 8) := by kernel_rfl
theorem IsWalk.clip {T : Tab} {a b : Int} {l : List Nat} (h : IsWalk T (max 0 a) (min b 65536) l) (hf : Fits T) : IsWalk T a b l := by
  refine ⟨h.up, fun p => ?_⟩
  rw [h.mem]
  constructor
  · rintro ⟨h1, h2, h3⟩
    exact ⟨h1, by omega, by omega⟩
  · rintro ⟨h1, h2, h3⟩
    have := hf p h1
    exact ⟨h1, by omega, by omega⟩
theorem below_put {B : Nat} {w A : World} {l : Nat} (o' : Obj) (h : Below B w A) (hl : B ≤ l) : Below B w (A.putObj l o') :=
  ⟨h.os, h.tape, h.output, by rw [World.putObj_size]; exact h.size, fun k hk => (World.putObj_heap_other (by omega)).trans (h.block k hk)⟩
theorem boxed_put {A : World} {B l : Nat} {t : TypeId} {v : Value} {o : Obj} (o' : Obj) (h : Boxed A B t v) (hl : A.heap[l]? = some o) (ho : o.isCells = false) : Boxed (A.putObj l o') B t v := by
  have : B ≠ l := by
    rintro rfl
    have h1 : A.heap[B]? = _ := h
    rw [h1] at hl
    cases hl
    cases ho
  exact (World.putObj_heap_other this).trans h
theorem kp_append {W w1 : World} {n₀ B : Nat} {v v' : Value} {k : Nat} {xs : List Value} {tmp : Obj} (hv : Boxed W B 40 v) (hrow : W.ownsRow n₀ 3 1 v k xs) (hgrow : (W.alloc tmp).grownBy w1 v.ownBlock) : Kp62 W (w1.setCell ⟨B, 0, none⟩ v') := by
  intro i cs hi
  have hlt : i < W.heap.size := (Array.getElem?_eq_some_iff.1 hi).1
  have h1 : i ≠ B := by
    rintro rfl
    have h1 : W.heap[i]? = _ := hv
    rw [h1] at hi
    cases hi
  have h2 : some i ≠ v.ownBlock := by
    rcases hrow.2 with ⟨rfl, _⟩ | ⟨g, cap, cur, rfl, _, hgb, _⟩
    · simp [Value.ownBlock]
    · intro e'
      obtain rfl : i = g := by simpa [Value.ownBlock] using e'
      rw [hgb] at hi
      cases hi
  rw [heap_setCell_other _ _ i _ h1, hgrow.block i (by simp; omega) h2, Below.heap_alloc _ _ _ hlt]
  exact hi

set_option maxRecDepth 100000 in
set_option maxHeartbeats 2000000 in
theorem pwalk (t : Nat) (N : Nds) (T : Tab) (n m : Nat) (a b : Int) (hn : n < 100000) (w : World) (hTab : TabIs w t N T n m) :
    Calls Try.prog 22 #[.pointer (some ⟨t, 0, none⟩), .int .i64 a, .int .i64 b] w fun e w' => ∃ v l, e = .returned v ∧ IsWalk T a b l ∧ w'.ownsRow w.heap.size 3 1 v l.length (l.map iv) ∧ Below w.heap.size w w' := by
  refine (callsIn_wide (n := 4)).1 ?_
  obtain ⟨i0, hi, hz0, hz1, hz2⟩ := info_parts info3
  refine callsIn_of_wp_marks Try.func22 rfl trivial ?_ rfl
  simp only [Try.ntmps22, List.size_toArray, List.length_cons, List.length_nil, Nat.reduceAdd, Nat.reduceSub, Array.replicate_succ, Array.replicate_zero, List.push_toArray, List.append_toArray, List.nil_append, List.cons_append]
  by_cases q1 : 0 < a <;> by_cases q2 : b ≤ 65536
  · have HC : Hid (∀ l, IsWalk T a b l → IsWalk T a b l) := fun l hl => IsWalk.clip (by rw [show max 0 a = a by omega, show min b 65536 = b by omega]; exact hl) hTab.heap.fits
    have hA0 : (0 : Int) ≤ a := by omega
    have hB0 : b ≤ 65536 := by omega
    gi_wp2
    have hbel : Below w.heap.size w ((w.alloc (Obj.cells #[Value.pointer (some ⟨t, 0, none⟩), Value.int .i64 a, Value.int .i64 b] 62)).alloc (Obj.cells #[Value.slice none 0 0] 40)) := (below_alloc _ _).trans ((below_alloc _ _).mono (by simp))
    have bO := Boxed.new (w.alloc (Obj.cells #[Value.pointer (some ⟨t, 0, none⟩), Value.int .i64 a, Value.int .i64 b] 62)) 40 (.slice none 0 0)
    rw [World.size_alloc] at bO
    refine range_bound 32 #[Value.agg #[Value.pointer (some ⟨t, 0, none⟩), Value.int .i64 a, Value.int .i64 b]] rfl (enters_of Try.func32 (by kernel_rfl) rfl) rfl (fun xs => IsWalk T a b xs) (fun pre => ∃ c : Int, IsWalk T a c pre)
      (fun pre W => (∃ v, Boxed W (w.heap.size + 1) 40 v ∧ W.ownsRow w.heap.size 3 1 v pre.length (pre.map iv)) ∧ Below w.heap.size w W)
      (fun l J W hJa hJd hJI hY h0 => pages_in t N T n m a b hA0 hB0 l J hJa hJd (fun s A hJ => hTab.heap.below (hJI s A hJ).2) (fun pre x W c hJ hc => hY pre x W hJ ⟨c, hc⟩) W h0) ?_ ?_ ?_ ?_
      (fun x => { tmps := #[Value.pointer (some ⟨t, 0, none⟩), Value.int .i64 a, Value.int .i64 b, undef, undef, undef, Value.slice none 0 0, Value.pointer (some ⟨w.heap.size, 0, none⟩), Value.pointer (some ⟨w.heap.size + 1, 0, none⟩), Value.int .i64 x, Value.pointer (some ⟨t, 0, none⟩), Value.pointer (some ⟨t, 0, none⟩), Value.pointer (some ⟨t, 0, none⟩), Value.int .i64 a, Value.int .i64 a, Value.int .i64 b, Value.int .i64 b, Value.agg #[Value.pointer (some ⟨t, 0, none⟩), Value.int .i64 a, Value.int .i64 b], Value.agg #[Value.pointer (some ⟨t, 0, none⟩), Value.int .i64 a, Value.int .i64 b], Value.func (Fn.func 32) #[Value.agg #[Value.pointer (some ⟨t, 0, none⟩), Value.int .i64 a, Value.int .i64 b]] #[], Value.int .i64 x, undef, undef, undef, undef, undef], defers := [] }) ?_ ?_ ?_
    · rintro s A o ⟨⟨v, h1, h2⟩, h3⟩
      exact ⟨⟨v, h1.alloc o, h2.alloc o⟩, h3.trans ((below_alloc _ _).mono h3.size)⟩
    · rintro s A d ⟨⟨v, h1, h2⟩, h3⟩
      exact ⟨⟨v, h1, own_turn h2 (fun _ _ _ => rfl)⟩, below_drawn h3 d⟩
    · rintro s A l o o' hl hlo ho ⟨⟨v, h1, h2⟩, h3⟩
      exact ⟨⟨v, boxed_put o' h1 hlo ho, ownsRow_putObj h2 o' hlo ho⟩, below_put o' h3 (by simp at hl; omega)⟩
    · exact ⟨⟨_, bO, World.ownsRow_nil _ _ _ _⟩, hbel⟩
    · intro l x W K hK
      gi_wp2
      exact hK
    · rintro l pre x W ⟨⟨v, hv, hrow⟩, hB⟩ ⟨c, hw⟩
      have hc := hv.cell
      have hlen := hw.short hTab.cnt
      clear hTab hw bO hbel
      gi_wp2_with (gi_at_builtin; refine wpListIn_append_own _ rfl _ _ 40 rfl w.heap.size 3 i0 (.int .i64 0) 1 8 Try.underlying40 hi hz0 hz1 hz2 rfl (by decide) _ _ _ rfl (hrow.alloc _) ⟨W.heap.size, 0, none⟩ 1 1 [.int .i64 x] rfl rfl (cell_one_new _ _ _) (by simp [Value.oneCell']) (by unfold maxLen; omega) (by omega) (by have := hB.size; simp; omega) ?_; intro v' w1 hown' hgrow _; obtain ⟨g', cap', rfl⟩ := ownsRow_succ hown'; have hkp := kp_append (v' := .slice (some ⟨g', 0, none⟩) (pre.length + 1) cap') hv hrow hgrow; obtain ⟨hv1, hv2, hr2, hk2, hb2⟩ := hv.appended (by decide) hrow hB.size (by omega) hown' hgrow; have hc1 := hv1.cell; have hf1 := hv1.frozen)
      exact ⟨⟨_, hv2, by simpa [iv] using hr2⟩, hB.trans hb2⟩
    · rintro D xs W hD hS ⟨⟨v, hv, hrow⟩, hB⟩ hK
      have hc := hv.cell
      have HX : Hid (IsWalk T a b xs) := HC.out xs hS
      clear hS
      gi_wp2
      refine ⟨by simp, .inl ⟨_, _, rfl, run_takeDeferred hK, ?_⟩⟩
      exact ⟨_, results_tmp rfl _ _ _, v, xs, rfl, HX.out, ownsRow_putObj hrow _ hK rfl, below_put _ hB (by simp at hD; omega)⟩
  · have HC : Hid (∀ l, IsWalk T a (65536 : Int) l → IsWalk T a b l) := fun l hl => IsWalk.clip (by rw [show max 0 a = a by omega, show min b 65536 = (65536 : Int) by omega]; exact hl) hTab.heap.fits
    have hA0 : (0 : Int) ≤ a := by omega
    have hB0 : (65536 : Int) ≤ 65536 := by omega
    gi_wp2
    have hbel : Below w.heap.size w ((w.alloc (Obj.cells #[Value.pointer (some ⟨t, 0, none⟩), Value.int .i64 a, Value.int .i64 (65536 : Int)] 62)).alloc (Obj.cells #[Value.slice none 0 0] 40)) := (below_alloc _ _).trans ((below_alloc _ _).mono (by simp))
    have bO := Boxed.new (w.alloc (Obj.cells #[Value.pointer (some ⟨t, 0, none⟩), Value.int .i64 a, Value.int .i64 (65536 : Int)] 62)) 40 (.slice none 0 0)
    rw [World.size_alloc] at bO
    refine range_bound 32 #[Value.agg #[Value.pointer (some ⟨t, 0, none⟩), Value.int .i64 a, Value.int .i64 (65536 : Int)]] rfl (enters_of Try.func32 (by kernel_rfl) rfl) rfl (fun xs => IsWalk T a (65536 : Int) xs) (fun pre => ∃ c : Int, IsWalk T a c pre)
      (fun pre W => (∃ v, Boxed W (w.heap.size + 1) 40 v ∧ W.ownsRow w.heap.size 3 1 v pre.length (pre.map iv)) ∧ Below w.heap.size w W)
      (fun l J W hJa hJd hJI hY h0 => pages_in t N T n m a (65536 : Int) hA0 hB0 l J hJa hJd (fun s A hJ => hTab.heap.below (hJI s A hJ).2) (fun pre x W c hJ hc => hY pre x W hJ ⟨c, hc⟩) W h0) ?_ ?_ ?_ ?_
      (fun x => { tmps := #[Value.pointer (some ⟨t, 0, none⟩), Value.int .i64 a, Value.int .i64 b, undef, undef, undef, Value.slice none 0 0, Value.pointer (some ⟨w.heap.size, 0, none⟩), Value.pointer (some ⟨w.heap.size + 1, 0, none⟩), Value.int .i64 x, Value.pointer (some ⟨t, 0, none⟩), Value.pointer (some ⟨t, 0, none⟩), Value.pointer (some ⟨t, 0, none⟩), Value.int .i64 a, Value.int .i64 a, Value.int .i64 b, Value.int .i64 (65536 : Int), Value.agg #[Value.pointer (some ⟨t, 0, none⟩), Value.int .i64 a, Value.int .i64 (65536 : Int)], Value.agg #[Value.pointer (some ⟨t, 0, none⟩), Value.int .i64 a, Value.int .i64 (65536 : Int)], Value.func (Fn.func 32) #[Value.agg #[Value.pointer (some ⟨t, 0, none⟩), Value.int .i64 a, Value.int .i64 (65536 : Int)]] #[], Value.int .i64 x, undef, undef, undef, undef, undef], defers := [] }) ?_ ?_ ?_
    · rintro s A o ⟨⟨v, h1, h2⟩, h3⟩
      exact ⟨⟨v, h1.alloc o, h2.alloc o⟩, h3.trans ((below_alloc _ _).mono h3.size)⟩
    · rintro s A d ⟨⟨v, h1, h2⟩, h3⟩
      exact ⟨⟨v, h1, own_turn h2 (fun _ _ _ => rfl)⟩, below_drawn h3 d⟩
    · rintro s A l o o' hl hlo ho ⟨⟨v, h1, h2⟩, h3⟩
      exact ⟨⟨v, boxed_put o' h1 hlo ho, ownsRow_putObj h2 o' hlo ho⟩, below_put o' h3 (by simp at hl; omega)⟩
    · exact ⟨⟨_, bO, World.ownsRow_nil _ _ _ _⟩, hbel⟩
    · intro l x W K hK
      gi_wp2
      exact hK
    · rintro l pre x W ⟨⟨v, hv, hrow⟩, hB⟩ ⟨c, hw⟩
      have hc := hv.cell
      have hlen := hw.short hTab.cnt
      clear hTab hw bO hbel
      gi_wp2_with (gi_at_builtin; refine wpListIn_append_own _ rfl _ _ 40 rfl w.heap.size 3 i0 (.int .i64 0) 1 8 Try.underlying40 hi hz0 hz1 hz2 rfl (by decide) _ _ _ rfl (hrow.alloc _) ⟨W.heap.size, 0, none⟩ 1 1 [.int .i64 x] rfl rfl (cell_one_new _ _ _) (by simp [Value.oneCell']) (by unfold maxLen; omega) (by omega) (by have := hB.size; simp; omega) ?_; intro v' w1 hown' hgrow _; obtain ⟨g', cap', rfl⟩ := ownsRow_succ hown'; have hkp := kp_append (v' := .slice (some ⟨g', 0, none⟩) (pre.length + 1) cap') hv hrow hgrow; obtain ⟨hv1, hv2, hr2, hk2, hb2⟩ := hv.appended (by decide) hrow hB.size (by omega) hown' hgrow; have hc1 := hv1.cell; have hf1 := hv1.frozen)
      exact ⟨⟨_, hv2, by simpa [iv] using hr2⟩, hB.trans hb2⟩
    · rintro D xs W hD hS ⟨⟨v, hv, hrow⟩, hB⟩ hK
      have hc := hv.cell
      have HX : Hid (IsWalk T a b xs) := HC.out xs hS
      clear hS
      gi_wp2
      refine ⟨by simp, .inl ⟨_, _, rfl, run_takeDeferred hK, ?_⟩⟩
      exact ⟨_, results_tmp rfl _ _ _, v, xs, rfl, HX.out, ownsRow_putObj hrow _ hK rfl, below_put _ hB (by simp at hD; omega)⟩
  · have HC : Hid (∀ l, IsWalk T (0 : Int) b l → IsWalk T a b l) := fun l hl => IsWalk.clip (by rw [show max 0 a = (0 : Int) by omega, show min b 65536 = b by omega]; exact hl) hTab.heap.fits
    have hA0 : (0 : Int) ≤ (0 : Int) := by omega
    have hB0 : b ≤ 65536 := by omega
    gi_wp2
    have hbel : Below w.heap.size w ((w.alloc (Obj.cells #[Value.pointer (some ⟨t, 0, none⟩), Value.int .i64 (0 : Int), Value.int .i64 b] 62)).alloc (Obj.cells #[Value.slice none 0 0] 40)) := (below_alloc _ _).trans ((below_alloc _ _).mono (by simp))
    have bO := Boxed.new (w.alloc (Obj.cells #[Value.pointer (some ⟨t, 0, none⟩), Value.int .i64 (0 : Int), Value.int .i64 b] 62)) 40 (.slice none 0 0)
    rw [World.size_alloc] at bO
    refine range_bound 32 #[Value.agg #[Value.pointer (some ⟨t, 0, none⟩), Value.int .i64 (0 : Int), Value.int .i64 b]] rfl (enters_of Try.func32 (by kernel_rfl) rfl) rfl (fun xs => IsWalk T (0 : Int) b xs) (fun pre => ∃ c : Int, IsWalk T (0 : Int) c pre)
      (fun pre W => (∃ v, Boxed W (w.heap.size + 1) 40 v ∧ W.ownsRow w.heap.size 3 1 v pre.length (pre.map iv)) ∧ Below w.heap.size w W)
      (fun l J W hJa hJd hJI hY h0 => pages_in t N T n m (0 : Int) b hA0 hB0 l J hJa hJd (fun s A hJ => hTab.heap.below (hJI s A hJ).2) (fun pre x W c hJ hc => hY pre x W hJ ⟨c, hc⟩) W h0) ?_ ?_ ?_ ?_
      (fun x => { tmps := #[Value.pointer (some ⟨t, 0, none⟩), Value.int .i64 a, Value.int .i64 b, undef, undef, undef, Value.slice none 0 0, Value.pointer (some ⟨w.heap.size, 0, none⟩), Value.pointer (some ⟨w.heap.size + 1, 0, none⟩), Value.int .i64 x, Value.pointer (some ⟨t, 0, none⟩), Value.pointer (some ⟨t, 0, none⟩), Value.pointer (some ⟨t, 0, none⟩), Value.int .i64 a, Value.int .i64 (0 : Int), Value.int .i64 b, Value.int .i64 b, Value.agg #[Value.pointer (some ⟨t, 0, none⟩), Value.int .i64 (0 : Int), Value.int .i64 b], Value.agg #[Value.pointer (some ⟨t, 0, none⟩), Value.int .i64 (0 : Int), Value.int .i64 b], Value.func (Fn.func 32) #[Value.agg #[Value.pointer (some ⟨t, 0, none⟩), Value.int .i64 (0 : Int), Value.int .i64 b]] #[], Value.int .i64 x, undef, undef, undef, undef, undef], defers := [] }) ?_ ?_ ?_
    · rintro s A o ⟨⟨v, h1, h2⟩, h3⟩
      exact ⟨⟨v, h1.alloc o, h2.alloc o⟩, h3.trans ((below_alloc _ _).mono h3.size)⟩
    · rintro s A d ⟨⟨v, h1, h2⟩, h3⟩
      exact ⟨⟨v, h1, own_turn h2 (fun _ _ _ => rfl)⟩, below_drawn h3 d⟩
    · rintro s A l o o' hl hlo ho ⟨⟨v, h1, h2⟩, h3⟩
      exact ⟨⟨v, boxed_put o' h1 hlo ho, ownsRow_putObj h2 o' hlo ho⟩, below_put o' h3 (by simp at hl; omega)⟩
    · exact ⟨⟨_, bO, World.ownsRow_nil _ _ _ _⟩, hbel⟩
    · intro l x W K hK
      gi_wp2
      exact hK
    · rintro l pre x W ⟨⟨v, hv, hrow⟩, hB⟩ ⟨c, hw⟩
      have hc := hv.cell
      have hlen := hw.short hTab.cnt
      clear hTab hw bO hbel
      gi_wp2_with (gi_at_builtin; refine wpListIn_append_own _ rfl _ _ 40 rfl w.heap.size 3 i0 (.int .i64 0) 1 8 Try.underlying40 hi hz0 hz1 hz2 rfl (by decide) _ _ _ rfl (hrow.alloc _) ⟨W.heap.size, 0, none⟩ 1 1 [.int .i64 x] rfl rfl (cell_one_new _ _ _) (by simp [Value.oneCell']) (by unfold maxLen; omega) (by omega) (by have := hB.size; simp; omega) ?_; intro v' w1 hown' hgrow _; obtain ⟨g', cap', rfl⟩ := ownsRow_succ hown'; have hkp := kp_append (v' := .slice (some ⟨g', 0, none⟩) (pre.length + 1) cap') hv hrow hgrow; obtain ⟨hv1, hv2, hr2, hk2, hb2⟩ := hv.appended (by decide) hrow hB.size (by omega) hown' hgrow; have hc1 := hv1.cell; have hf1 := hv1.frozen)
      exact ⟨⟨_, hv2, by simpa [iv] using hr2⟩, hB.trans hb2⟩
    · rintro D xs W hD hS ⟨⟨v, hv, hrow⟩, hB⟩ hK
      have hc := hv.cell
      have HX : Hid (IsWalk T a b xs) := HC.out xs hS
      clear hS
      gi_wp2
      refine ⟨by simp, .inl ⟨_, _, rfl, run_takeDeferred hK, ?_⟩⟩
      exact ⟨_, results_tmp rfl _ _ _, v, xs, rfl, HX.out, ownsRow_putObj hrow _ hK rfl, below_put _ hB (by simp at hD; omega)⟩
  · have HC : Hid (∀ l, IsWalk T (0 : Int) (65536 : Int) l → IsWalk T a b l) := fun l hl => IsWalk.clip (by rw [show max 0 a = (0 : Int) by omega, show min b 65536 = (65536 : Int) by omega]; exact hl) hTab.heap.fits
    have hA0 : (0 : Int) ≤ (0 : Int) := by omega
    have hB0 : (65536 : Int) ≤ 65536 := by omega
    gi_wp2
    have hbel : Below w.heap.size w ((w.alloc (Obj.cells #[Value.pointer (some ⟨t, 0, none⟩), Value.int .i64 (0 : Int), Value.int .i64 (65536 : Int)] 62)).alloc (Obj.cells #[Value.slice none 0 0] 40)) := (below_alloc _ _).trans ((below_alloc _ _).mono (by simp))
    have bO := Boxed.new (w.alloc (Obj.cells #[Value.pointer (some ⟨t, 0, none⟩), Value.int .i64 (0 : Int), Value.int .i64 (65536 : Int)] 62)) 40 (.slice none 0 0)
    rw [World.size_alloc] at bO
    refine range_bound 32 #[Value.agg #[Value.pointer (some ⟨t, 0, none⟩), Value.int .i64 (0 : Int), Value.int .i64 (65536 : Int)]] rfl (enters_of Try.func32 (by kernel_rfl) rfl) rfl (fun xs => IsWalk T (0 : Int) (65536 : Int) xs) (fun pre => ∃ c : Int, IsWalk T (0 : Int) c pre)
      (fun pre W => (∃ v, Boxed W (w.heap.size + 1) 40 v ∧ W.ownsRow w.heap.size 3 1 v pre.length (pre.map iv)) ∧ Below w.heap.size w W)
      (fun l J W hJa hJd hJI hY h0 => pages_in t N T n m (0 : Int) (65536 : Int) hA0 hB0 l J hJa hJd (fun s A hJ => hTab.heap.below (hJI s A hJ).2) (fun pre x W c hJ hc => hY pre x W hJ ⟨c, hc⟩) W h0) ?_ ?_ ?_ ?_
      (fun x => { tmps := #[Value.pointer (some ⟨t, 0, none⟩), Value.int .i64 a, Value.int .i64 b, undef, undef, undef, Value.slice none 0 0, Value.pointer (some ⟨w.heap.size, 0, none⟩), Value.pointer (some ⟨w.heap.size + 1, 0, none⟩), Value.int .i64 x, Value.pointer (some ⟨t, 0, none⟩), Value.pointer (some ⟨t, 0, none⟩), Value.pointer (some ⟨t, 0, none⟩), Value.int .i64 a, Value.int .i64 (0 : Int), Value.int .i64 b, Value.int .i64 (65536 : Int), Value.agg #[Value.pointer (some ⟨t, 0, none⟩), Value.int .i64 (0 : Int), Value.int .i64 (65536 : Int)], Value.agg #[Value.pointer (some ⟨t, 0, none⟩), Value.int .i64 (0 : Int), Value.int .i64 (65536 : Int)], Value.func (Fn.func 32) #[Value.agg #[Value.pointer (some ⟨t, 0, none⟩), Value.int .i64 (0 : Int), Value.int .i64 (65536 : Int)]] #[], Value.int .i64 x, undef, undef, undef, undef, undef], defers := [] }) ?_ ?_ ?_
    · rintro s A o ⟨⟨v, h1, h2⟩, h3⟩
      exact ⟨⟨v, h1.alloc o, h2.alloc o⟩, h3.trans ((below_alloc _ _).mono h3.size)⟩
    · rintro s A d ⟨⟨v, h1, h2⟩, h3⟩
      exact ⟨⟨v, h1, own_turn h2 (fun _ _ _ => rfl)⟩, below_drawn h3 d⟩
    · rintro s A l o o' hl hlo ho ⟨⟨v, h1, h2⟩, h3⟩
      exact ⟨⟨v, boxed_put o' h1 hlo ho, ownsRow_putObj h2 o' hlo ho⟩, below_put o' h3 (by simp at hl; omega)⟩
    · exact ⟨⟨_, bO, World.ownsRow_nil _ _ _ _⟩, hbel⟩
    · intro l x W K hK
      gi_wp2
      exact hK
    · rintro l pre x W ⟨⟨v, hv, hrow⟩, hB⟩ ⟨c, hw⟩
      have hc := hv.cell
      have hlen := hw.short hTab.cnt
      clear hTab hw bO hbel
      gi_wp2_with (gi_at_builtin; refine wpListIn_append_own _ rfl _ _ 40 rfl w.heap.size 3 i0 (.int .i64 0) 1 8 Try.underlying40 hi hz0 hz1 hz2 rfl (by decide) _ _ _ rfl (hrow.alloc _) ⟨W.heap.size, 0, none⟩ 1 1 [.int .i64 x] rfl rfl (cell_one_new _ _ _) (by simp [Value.oneCell']) (by unfold maxLen; omega) (by omega) (by have := hB.size; simp; omega) ?_; intro v' w1 hown' hgrow _; obtain ⟨g', cap', rfl⟩ := ownsRow_succ hown'; have hkp := kp_append (v' := .slice (some ⟨g', 0, none⟩) (pre.length + 1) cap') hv hrow hgrow; obtain ⟨hv1, hv2, hr2, hk2, hb2⟩ := hv.appended (by decide) hrow hB.size (by omega) hown' hgrow; have hc1 := hv1.cell; have hf1 := hv1.frozen)
      exact ⟨⟨_, hv2, by simpa [iv] using hr2⟩, hB.trans hb2⟩
    · rintro D xs W hD hS ⟨⟨v, hv, hrow⟩, hB⟩ hK
      have hc := hv.cell
      have HX : Hid (IsWalk T a b xs) := HC.out xs hS
      clear hS
      gi_wp2
      refine ⟨by simp, .inl ⟨_, _, rfl, run_takeDeferred hK, ?_⟩⟩
      exact ⟨_, results_tmp rfl _ _ _, v, xs, rfl, HX.out, ownsRow_putObj hrow _ hK rfl, below_put _ hB (by simp at hD; omega)⟩
end Go.Proofs.Ytaecacbapeogdaa
