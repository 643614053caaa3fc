/-
  The function to range over that tells a chain: its contract; within.
-/
import Derived.RangeFuncNested
import Derived.RangeFuncLeaves
import Derived.RangeFuncBox
import Derived.Shelf.Abstract
import Derived.OwnWalkIn
import Derived.TacticsInMore
import Derived.LoopNIn
import Derived.LoopIn
import Derived.Test.YtimgpikgkbjliaaP2
import Derived.Test.YtimgpikgkbjliaaChain
namespace Go.Proofs.Ytimgpikgkbjliaa
open Go.RowKit Go.Shelf
attribute [local go_sem] Oper.semAt_some

/-- What a round keeps: all that lay below n₀, and the block that holds the list. -/
def Kp (n₀ Bt : Nat) (W W' : World) : Prop := Below n₀ W W' ∧ W'.heap[Bt]? = W.heap[Bt]?
theorem Kp.t {n₀ Bt : Nat} {X Y Z : World} (h : Kp n₀ Bt X Y) (k : Kp n₀ Bt Y Z) : Kp n₀ Bt X Z := ⟨h.1.trans k.1, k.2.trans h.2⟩
theorem Kp.b {n₀ Bt : Nat} {w : World} (hn : n₀ ≤ w.heap.size) (hB : Bt < w.heap.size) (W : World) (l : Nat) (o o' : Obj) (hl : w.heap.size ≤ l) (h : W.heap[l]? = some o) (h1 : o.isCells = false) (h2 : o.isWalk = false) : Kp n₀ Bt W (W.putObj l o') :=
  ⟨belowK_b hn W l o o' hl h h1 h2, World.putObj_heap_other (by omega)⟩

set_option maxRecDepth 100000 in
set_option maxHeartbeats 2000000 in
theorem up1_in (n : Nat) (hn : 1 ≤ n) (l Bg Bt : Nat) (a : Option Addr) (cap : Nat) (G : List Nd) (w : World) (hT : Nds w a cap G) (hok : Ok G) (x0 : Nat) (hx0 : x0 < G.length) (J Jx : List (Fin G.length) → World → Prop)
    (hY : ∀ pre x W, J pre W → pre.length < (chain G x0).length → YieldAt Fence.wide (n - 1) Try.prog l #[.int .i64 (pv x)] W fun e W' =>
      (e = .returned (.bool true) ∧ J (pre ++ [x]) W' ∧ Kp w.heap.size Bt W W') ∨ (e = .returned (.bool false) ∧ Jx (pre ++ [x]) W'))
    (W : World) (hW : Below w.heap.size w W) (hg : W.cell? ⟨Bg, 0, none⟩ = some (.int .i64 x0)) (ht : RowAt W Bt 22 [.slice a G.length cap]) (h0 : J [] W) :
    CallsIn Fence.wide n Try.prog 37 #[.func (.yield l) #[] #[], .pointer (some ⟨Bg, 0, none⟩), .pointer (some ⟨Bt, 0, none⟩)] W fun e W' => (∃ v, e = .returned v) ∧
      ((∃ ys, ys.map pv = chain G x0 ∧ J ys W') ∨ (∃ pre, pre.map pv <+: chain G x0 ∧ Jx pre W')) := by
  refine callsIn_of_wp Try.func37 rfl trivial ?_ rfl
  simp only [Try.ntmps37, List.size_toArray, List.length_cons, List.length_nil, Nat.reduceAdd, Nat.reduceSub, Array.replicate_succ, Array.replicate_zero, List.push_toArray, List.append_toArray, List.nil_append, List.cons_append]
  gi_wp2
  gi_loopw [4] (fun s4 wr => ∃ (pre : List (Fin G.length)) (x : Int), s4 = .int .i64 x ∧ -1 ≤ x ∧ x < G.length ∧ chain G x0 = pre.map pv ++ chain G x ∧ J pre wr ∧ Below w.heap.size w wr ∧ RowAt wr Bt 22 [.slice a G.length cap]) (fun s4 _ => (intOf s4 + 1).toNat)
  case atStart => exact ⟨[], x0, rfl, by omega, by omega, rfl, h0, hW, ht⟩
  case round =>
    clear hW ht hg h0
    obtain ⟨pre, x, rfl, hx1, hx2, hx, hJ, hb, ht⟩ := hrel
    have k0 : wr.cell? ⟨Bt, 0, none⟩ = some (.slice a G.length cap) := by rw [ht.cell]; rfl
    by_cases hm : x = -1
    · subst hm
      have HX : Hid (pre.map pv = chain G x0) := by show _ = _; rw [hx, chain_neg (by omega), List.append_nil]
      clear hx
      gi_wp2
      go_end0
      exact ⟨⟨_, rfl⟩, .inl ⟨pre, HX.out, hJ⟩⟩
    · obtain ⟨i, rfl⟩ := Int.eq_ofNat_of_zero_le (show 0 ≤ x by omega)
      have hi : i < G.length := by omega
      have hch := chain_step hok hi
      rw [hch] at hx
      have hY' := hY pre ⟨i, hi⟩ wr hJ (by rw [hx]; simp)
      rw [show pv (⟨i, hi⟩ : Fin G.length) = (i : Int) from rfl] at hY'
      obtain ⟨fn, tmps, assign, body, hy, hR⟩ := hY'
      have HX : Hid (chain G x0 = (pre ++ [(⟨i, hi⟩ : Fin G.length)]).map pv ++ chain G (par G i)) := by show _ = _; rw [hx]; simp [pv]
      have hlo := par_lo hok hi
      have HM : Hid ((par G i + 1).toNat < ((i : Int) + 1).toNat) := by show _ < _; omega
      have HP : Hid (-1 ≤ par G i ∧ par G i < G.length) := ⟨hlo.1, by omega⟩
      have hd : ((i : Int) != -1) = true := by simp
      obtain ⟨q, hq⟩ : ∃ q, q = par G i := ⟨_, rfl⟩
      have HG : Hid (∀ W, Below w.heap.size w W → ∃ (b off : Nat), a = some ⟨b, off, none⟩ ∧ W.cell? ⟨b, off + i * 3, none⟩ = some (.int .i64 q)) := fun W h => by
        obtain ⟨b, off, h1, h2, -⟩ := (hT.later h).get hi
        exact ⟨b, off, h1, by rw [hq]; exact h2⟩
      rw [← hq] at HX HM HP
      clear hx hch hm hlo hq
      gi_wp2_with fail
      refine hR.mono ?_
      rintro e W3 (⟨rfl, hJ3, hk3⟩ | ⟨rfl, hJx3⟩)
      · have hb3 := hb.trans hk3.1
        have ht3 : RowAt W3 Bt 22 [.slice a G.length cap] := hk3.2.trans ht
        have k3 : W3.cell? ⟨Bt, 0, none⟩ = some (.slice a G.length cap) := by rw [ht3.cell]; rfl
        obtain ⟨b, off, rfl, k4⟩ := HG.out W3 hb3
        gi_wp2
        exact ⟨⟨pre ++ [⟨i, hi⟩], q, rfl, HP.out.1, HP.out.2, HX.out, hJ3, hb3, ht3⟩, by simp only [intOf]; exact HM.out⟩
      · gi_wp2
        refine bodyPost_ret (results_none rfl _ _ _) rfl ?_
        exact ⟨⟨_, rfl⟩, .inr ⟨pre ++ [⟨i, hi⟩], ⟨_, HX.out.symm⟩, hJx3⟩⟩

set_option maxHeartbeats 1000000 in
theorem up_in (n : Nat) (a : Option Addr) (len cap : Nat) (x : Int) (w : World) :
    CallsIn Fence.wide n Try.prog 34 #[.slice a len cap, .int .i64 x] w fun e w' => e = .returned (.func (.func 37) #[] #[.pointer (some ⟨w.heap.size + 1, 0, none⟩), .pointer (some ⟨w.heap.size, 0, none⟩)]) ∧
      w' = (w.alloc (.cells #[.slice a len cap] 22)).alloc (.cells #[.int .i64 x] 3) := by
  refine callsIn_of_wp Try.func34 rfl trivial ?_ rfl
  simp only [Try.ntmps34, List.size_toArray, List.length_cons, List.length_nil, Nat.reduceAdd, Nat.reduceSub, Array.replicate_succ, Array.replicate_zero, List.push_toArray, List.append_toArray, List.nil_append, List.cons_append]
  gi_wp2
  go_ret
  exact ⟨rfl, rfl⟩

/-- The world behind up. -/
def upW (w : World) (a : Option Addr) (len cap : Nat) (x : Int) : World := (w.alloc (.cells #[.slice a len cap] 22)).alloc (.cells #[.int .i64 x] 3)
theorem upW_size (w : World) (a : Option Addr) (len cap : Nat) (x : Int) : (upW w a len cap x).heap.size = w.heap.size + 1 + 1 := by simp [upW]
theorem upW_below (w : World) (a : Option Addr) (len cap : Nat) (x : Int) : Below w.heap.size w (upW w a len cap x) := (below_alloc _ _).trans ((below_alloc _ _).mono (by simp))
theorem upW_t (w : World) (a : Option Addr) (len cap : Nat) (x : Int) : RowAt (upW w a len cap x) w.heap.size 22 [.slice a len cap] := (RowAt.new w _ 22).alloc _
theorem upW_g (w : World) (a : Option Addr) (len cap : Nat) (x : Int) : (upW w a len cap x).cell? ⟨w.heap.size + 1, 0, none⟩ = some (.int .i64 x) := by
  have := (RowAt.new (w.alloc (.cells #[.slice a len cap] 22)) #[.int .i64 x] 3)
  rw [World.size_alloc] at this
  exact (RowAt.cell this 0).trans rfl

theorem up_stops (n : Nat) (hn : 1 ≤ n) (n₀ : Nat) (a : Option Addr) (cap : Nat) (G : List Nd) (x0 : Nat) (hx0 : x0 < G.length) (w w1 : World) (hT : Nds w a cap G) (hok : Ok G) (hn₀ : n₀ = w.heap.size) (hb : Below w.heap.size w w1) :
    SeqStopsK Fence.wide n Try.prog 37 #[.pointer (some ⟨w1.heap.size + 1, 0, none⟩), .pointer (some ⟨w1.heap.size, 0, none⟩)] (fun x : Fin G.length => #[Value.int .i64 (pv x)]) (Kp n₀ w1.heap.size) (fun ys => ys.map pv = chain G x0) (fun pre => pre.map pv <+: chain G x0) (chain G x0).length (upW w1 a G.length cap x0) := fun l J Jx W hW _ _ hY h0 => by
  subst hn₀
  have hs := upW_size w1 a G.length cap x0
  refine up1_in n hn l (w1.heap.size + 1) w1.heap.size a cap G w hT hok x0 hx0 J Jx hY W ((hb.trans ((upW_below w1 a G.length cap x0).mono hb.size)).trans (hW.mono (by have := hb.size; omega))) ?_ ?_ h0
  · rw [hW.cell (p := ⟨w1.heap.size + 1, 0, none⟩) (by show w1.heap.size + 1 < _; omega)]
    exact upW_g w1 a G.length cap x0
  · exact (upW_t w1 a G.length cap x0).below hW (by omega)

theorem below_put {B : Nat} {w A : World} {l : Nat} (o' : Obj) (h : Below B w A) (hl : B ≤ l) : Below B w (A.putObj l o') :=
  ⟨h.os, h.tape, h.output, by rw [World.putObj_size]; exact h.size, fun k hk => (World.putObj_heap_other (by omega)).trans (h.block k hk)⟩
theorem boxed_own {β : Type} {B : Nat} {t : TypeId} (f : β → Value) : Own (fun (s : β) W => Boxed W B t (f s)) := fun s A B' row hs hg hr => by
  refine hs.kept hg ?_
  intro e
  obtain ⟨o, ho, hc⟩ := hr _ e.symm
  have : A.heap[B]? = _ := hs
  rw [this] at ho
  cases ho
  cases hc

set_option maxRecDepth 100000 in
set_option maxHeartbeats 2000000 in
theorem pwithin (a : Option Addr) (cap : Nat) (G : List Nd) (x : Nat) (g : Int) (w : World) (hT : Nds w a cap G) (hok : Ok G) (hx : x < G.length) :
    Calls Try.prog 24 #[.slice a G.length cap, .int .i64 x, .int .i64 g] w fun e w' => e = .returned (.bool (blw G g x)) ∧ Below w.heap.size w w' := by
  refine (callsIn_wide (n := 4)).1 ?_
  refine callsIn_of_wp_marks Try.func24 rfl trivial ?_ rfl
  simp only [Try.ntmps24, List.size_toArray, List.length_cons, List.length_nil, Nat.reduceAdd, Nat.reduceSub, Array.replicate_succ, Array.replicate_zero, List.push_toArray, List.append_toArray, List.nil_append, List.cons_append]
  gi_wp2_with fail
  refine ⟨trivial, ?_⟩
  gi_at_call 34
  refine (up_in _ _ _ _ _ _).mono ?_
  rintro e w' ⟨rfl, rfl⟩
  gi_wp2_with fail
  have hs := (Boxed.new w 3 (.int .i64 g)).alloc (.cells #[.bool false] 4)
  have hr := Boxed.new (w.alloc (.cells #[.int .i64 g] 3)) 4 (.bool false)
  rw [World.size_alloc] at hr
  have hB1 : Below w.heap.size w ((w.alloc (.cells #[.int .i64 g] 3)).alloc (.cells #[.bool false] 4)) := (below_alloc _ _).trans ((below_alloc _ _).mono (by simp))
  obtain ⟨w1, hw1⟩ : ∃ w1, w1 = (w.alloc (.cells #[.int .i64 g] 3)).alloc (.cells #[.bool false] 4) := ⟨_, rfl⟩
  have hz : w1.heap.size = w.heap.size + 1 + 1 := by rw [hw1]; simp
  rw [← hw1] at hs hB1 hr
  have hu := upW_size w1 a G.length cap x
  have hb2 := upW_below w1 a G.length cap x
  have hst := up_stops 3 (by omega) w.heap.size a cap G x hx w w1 hT hok rfl hB1
  have hB2 : Below w.heap.size w (upW w1 a G.length cap x) := hB1.trans (hb2.mono (by omega))
  have hs2 : Boxed (upW w1 a G.length cap x) w.heap.size 3 (.int .i64 g) := (hb2.block _ (by omega)).trans hs
  have hr2 : Boxed (upW w1 a G.length cap x) (w.heap.size + 1) 4 (.bool false) := (hb2.block _ (by omega)).trans hr
  rw [← hw1]
  rw [show (w1.alloc (.cells #[.slice a G.length cap] 22)).alloc (.cells #[.int .i64 x] 3) = upW w1 a G.length cap x from rfl]
  rw [← hz]
  have hv : ∀ {y : Fin G.length} {pre : List (Fin G.length)}, g ∉ pre.map pv → pv y ≠ g → g ∉ (pre ++ [y]).map pv := by
    intro y pre h1 h2 h
    rw [List.map_append] at h
    rcases List.mem_append.1 h with h | h
    · exact h1 h
    · simp at h; exact h2 h.symm
  have HV : Hid (∀ {y : Fin G.length} {pre : List (Fin G.length)}, g ∉ pre.map pv → pv y ≠ g → g ∉ (pre ++ [y]).map pv) := hv
  clear hv
  generalize upW w1 a G.length cap x = W0 at *
  refine wpIn_rangeFunc_ownF rfl (by omega) (gf := 37) rfl trivial (enters_of Try.func37 (by kernel_rfl) rfl) hst Kp.t (Kp.b (by omega) (by omega)) (Below.refl _ _) (fun _ => rfl)
    (fun pre W => (Boxed W w.heap.size 3 (.int .i64 g) ∧ Boxed W (w.heap.size + 1) 4 (.bool false)) ∧ g ∉ pre.map pv ∧ Below w.heap.size w W)
    (fun c pre W => Boxed W (w.heap.size + 1) 4 (.bool true) ∧ c = .ret ∧ g ∈ pre.map pv ∧ Below w.heap.size w W) ?_ ?_ ⟨⟨hs2, hr2⟩, by simp, hB2⟩
    (fun y => { tmps := #[.slice a G.length cap, .int .i64 x, .int .i64 g, undef, undef, .pointer (some ⟨w.heap.size, 0, none⟩), .pointer (some ⟨w.heap.size + 1, 0, none⟩), .int .i64 (pv y), .slice a G.length cap, .int .i64 x, .func (.func 37) #[] #[.pointer (some ⟨w1.heap.size + 1, 0, none⟩), .pointer (some ⟨w1.heap.size, 0, none⟩)], .int .i64 (pv y), undef, undef, undef], defers := [] }) ?assign ?body ?done ?stop
  · exact OwnFrom.and (Own.from (fun s A B row hs hg hr => ⟨boxed_own (fun _ : List (Fin G.length) => _) s A B row hs.1 hg hr, boxed_own (fun _ : List (Fin G.length) => _) s A B row hs.2 hg hr⟩) _) (OwnFrom.and (fun s A B row hs _ _ => hs) (ownFrom_below (Nat.le_refl _) (by omega)))
  · exact fun c => OwnFrom.and (Own.from (boxed_own _) _) (OwnFrom.and (fun s A B row hs _ _ => hs) (OwnFrom.and (fun s A B row hs _ _ => hs) (ownFrom_below (Nat.le_refl _) (by omega))))
  case assign =>
    intro l x W K hK
    clear hz hw1 hu
    gi_wp2
    exact hK
  case body =>
    rintro l pre y W ⟨⟨hc0, hc1⟩, hne, hB⟩ hlt
    have k0 := hc0.cell
    have k1 := hc1.cell
    have f1 := hc1.frozen
    clear hst hs hs2 hB2 hb2 hT hr hr2 hlt
    by_cases hq : pv y = g
    · have HM : Hid (g ∈ (pre ++ [y]).map pv) := by show _ ∈ _; simp [← hq]
      have hd : (pv y == g) = true := by simp [hq]
      clear hq hne
      gi_wp2
      exact ⟨KeepsOthers.setCell _ _ _, hc1.set _, rfl, HM.out, hB.setCell (p := ⟨w.heap.size + 1, 0, none⟩) (by show w.heap.size ≤ w.heap.size + 1; omega) _⟩
    · have hd : (pv y == g) = false := by simpa using hq
      have HQ : Hid (g ∉ (pre ++ [y]).map pv) := HV.out hne hq
      clear hq hne
      gi_wp2
      exact ⟨KeepsOthers.refl _, ⟨Below.refl _ _, rfl⟩, ⟨hc0, hc1⟩, HQ.out, hB⟩
  case done =>
    rintro D ys W hD hys ⟨⟨hc0, hc1⟩, hne, hB⟩ hK
    have k1 := hc1.cell
    have f1 := hc1.frozen
    have HQ : Hid (blw G g x = false) := by show _ = _; rw [blw_no, ← hys]; exact hne
    clear hst hs hs2 hB2 hb2 hr hr2 hne hys
    gi_wp2
    have hK' := (KeepsOthers.setCell W ⟨w.heap.size + 1, 0, none⟩ (.bool false)).same D _ hK rfl
    refine ⟨by simp, .inl ⟨_, _, rfl, run_takeDeferred hK', ?_⟩⟩
    have hc5 := cell_kept (World.cell?_setCell_same' W ⟨w.heap.size + 1, 0, none⟩ (.bool false) (by rw [k1]; rfl)) (grownBy_putObj' _ D (.deferred none)) (fun r e => by cases e; exact ⟨_, hK', rfl⟩)
    refine ⟨.bool false, ?_, by rw [HQ.out], below_put _ (hB.setCell (p := ⟨w.heap.size + 1, 0, none⟩) (by show w.heap.size ≤ w.heap.size + 1; omega) _) (by omega)⟩
    simp [results, Try.f24, go_sem, hc5]
  case stop =>
    rintro D c pre W hD hpre ⟨hc1, rfl, hin, hB⟩ hK
    have HQ : Hid (blw G g x = true) := by
      show _ = _
      rw [blw_yes]
      exact hpre.subset hin
    clear hst hs hs2 hB2 hb2 hr hr2 hin hpre
    gi_wp2
    refine ⟨by simp, .inl ⟨_, _, rfl, run_takeDeferred hK, ?_⟩⟩
    have hc5 := cell_kept hc1.cell (grownBy_putObj' _ D (.deferred none)) (fun r e => by cases e; exact ⟨_, hK, rfl⟩)
    refine ⟨.bool true, ?_, by rw [HQ.out], below_put _ hB (by omega)⟩
    simp [results, Try.f24, go_sem, hc5]
end Go.Proofs.Ytimgpikgkbjliaa
