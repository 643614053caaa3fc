/-
  The laws' of: a list as the document has it.
-/
import Derived.Test.YtimgpikgkbjliaaOwn
import Derived.Deep.RegionLaw
namespace Go.Proofs.Ytimgpikgkbjliaa
open Go.RowKit

theorem own_form {w : World} {B e c n : Nat} {v : Value} {xs : List Value} (h : w.ownsRow B e c v n xs) : ∃ a cap, v = .slice a n cap := by
  rcases h.2 with ⟨rfl, rfl⟩ | ⟨g, cap, cur, rfl, _⟩
  · exact ⟨none, 0, rfl⟩
  · exact ⟨_, cap, rfl⟩
/-- append to a row of its own, as one step of a region that draws. -/
theorem step_append_own {P : Program} {ops : Array Oper} {o : Oper} {a : Act} {w : World} {K : Act → World → Prop} {Q : Exit → Act → World → Prop} {E : Prop}
    (hg : o.guard = none) (s x : Operand) (t : TypeId) (hop : o.op = Op.call { callee := Callee.builtin Builtin.append, args := #[s, x], argTypes := #[t, t] })
    (B : Nat) (e : TypeId) (z : Value) (size bytes : Nat) (h1 : P.underlying t = some (.slice e)) (h2 : (P.info? e).map (fun i => (i.zero, i.size, i.bytes)) = some (some z, size, bytes)) (h6 : z.cells.size = size) (h7 : 0 < size)
    (v : Value) (n : Nat) (xs : List Value) (hs : a.eval s = v) (hown : w.ownsRow B e size v n xs)
    (ad : Addr) (m c : Nat) (news : List Value) (hx : a.eval x = .slice (some ad) m c) (hn : news.length = m * size) (hc : ∀ j u, news[j]? = some u → w.cell? (ad.add j) = some u) (h1c : ∀ u ∈ news, u.oneCell' = true)
    (b1 : n + m ≤ maxLen) (b2 : (n + m) * bytes ≤ 140737488355328) (hB : B ≤ w.heap.size)
    (hK : ∀ a' c' w', w'.ownsRow B e size (.slice a' (n + m) c') (n + m) (xs ++ news) → w.grownBy w' v.ownBlock → K (a.put o.dst (.slice a' (n + m) c')) w') :
    if Region.wanted o (yielded ops a.tmps) = true then Oper.wp P o a w K Q else E := by
  have hw : Region.wanted o (yielded ops a.tmps) = true := by simp [Region.wanted, hg]
  rw [if_pos hw]
  obtain ⟨i, hi, hz0, hz1, hz2⟩ := info_parts h2
  obtain ⟨v', w', hrun, r1, r2, _⟩ := run_append_own (P := P) w B t o.type e i z size bytes h1 hi hz0 hz1 hz2 h6 h7 v n xs hown ad m c news hn hc h1c b1 b2 hB
  obtain ⟨a', c', rfl⟩ := own_form r1
  unfold Oper.wp
  simp [execOp, hop, resolve, invoke, builtin, hs, hx, hrun, Result.andThen]
  exact hK a' c' w' r1 r2
theorem flatN_take (L : List Nd) (j : Nat) (hj : j < L.length) : flatN (L.take j) ++ nc (L.getD j nz) = flatN (L.take (j + 1)) := by
  have : L.take (j + 1) = L.take j ++ [L.getD j nz] := by
    rw [← List.take_append_getElem hj]
    simp [List.getD_eq_getElem?_getD, List.getElem?_eq_getElem hj]
  rw [this, flatN_append]
  rfl

set_option maxRecDepth 100000 in
set_option maxHeartbeats 8000000 in
theorem rof (a : Option Addr) (cap : Nat) (G : List Nd) (w : World) (h : Nds w a cap G) (hL : G.length ≤ 100000) :
    Calls Try.prog 13 #[.slice a G.length cap] w fun e w' => ∃ a' c', e = .returned (.slice a' G.length c') ∧ Nds w' a' c' G ∧ Below w.heap.size w w' := by
  go_enter Try.func13, Try.ntmps13
  go_wp2
  go_loopw [3, 4] (fun s3 s4 wr => ∃ j : Nat, j ≤ G.length ∧ s4 = .int .i64 j ∧ wr.ownsRow w.heap.size 46 3 s3 j (flatN (G.take j)) ∧ Below w.heap.size w wr) (fun _ s4 _ => G.length - (intOf s4).toNat)
  case atStart => exact ⟨0, by omega, rfl, World.ownsRow_nil _ _ _ _, Below.refl _ _⟩
  case round =>
    obtain ⟨j, hj, rfl, hown, hb⟩ := hrel
    by_cases hjl : j < G.length
    · obtain ⟨b, off, rfl, c0, c1, c2⟩ := (h.later hb).get hjl
      have hft := flatN_take G j hjl
      obtain ⟨p, hp⟩ : ∃ p, p = par G j := ⟨_, rfl⟩
      obtain ⟨u, hu⟩ : ∃ u, u = use G j := ⟨_, rfl⟩
      obtain ⟨o, ho⟩ : ∃ o, o = own G j := ⟨_, rfl⟩
      have hnc : nc (G.getD j nz) = [.int .i64 p, .int .i64 u, .int .i64 o] := by rw [hp, hu, ho]; rfl
      rw [hnc] at hft
      rw [← hp] at c0
      rw [← hu] at c1
      rw [← ho] at c2
      obtain ⟨a3, c3, rfl⟩ := own_form hown
      have HOWN : Hid (∀ ob, (wr.alloc ob).drew.ownsRow w.heap.size 46 3 (.slice a3 j c3) j (flatN (G.take j))) := fun ob => hown.alloc ob
      have HNEW : Hid (∀ i v, ([.int .i64 p, .int .i64 u, .int .i64 o] : List Value)[i]? = some v → (wr.alloc (.cells #[.int .i64 p, .int .i64 u, .int .i64 o] 46)).drew.cell? ((⟨wr.heap.size, 0, none⟩ : Addr).add i) = some v) := by
        intro i v hv
        have hnew := (RowAt.new wr #[.int .i64 p, .int .i64 u, .int .i64 o] 46).cell i
        rw [Addr.add_mid, Nat.zero_add]
        exact hnew.trans hv
      have HEND : Hid (∀ a' c' w', w'.ownsRow w.heap.size 46 3 (.slice a' (j + 1) c') (j + 1) (flatN (G.take j) ++ [.int .i64 p, .int .i64 u, .int .i64 o]) → (wr.alloc (.cells #[.int .i64 p, .int .i64 u, .int .i64 o] 46)).drew.grownBy w' (Value.slice a3 j c3).ownBlock →
          w'.ownsRow w.heap.size 46 3 (.slice a' (j + 1) c') (j + 1) (flatN (G.take (j + 1))) ∧ Below w.heap.size w w') := by
        intro a' c' w' ho hg
        rw [hft] at ho
        refine ⟨ho, ?_⟩
        have hb2 : Below w.heap.size w (wr.alloc (.cells #[.int .i64 p, .int .i64 u, .int .i64 o] 46)).drew := below_drawn (bel_trans hb (below_alloc _ _)) 1
        exact grown_below hg hb2 fun k hk => (hown.lt k hk).1
      have hws : w.heap.size ≤ wr.heap.size := hb.size
      clear hp hu ho hnc hft hown hb h
      go_wp2
      go_region_law (refine step_append_own rfl (.tmp 11) (.tmp 28) 28 rfl w.heap.size 46 _ 3 24 Try.underlying28 info46 rfl (by decide) (.slice a3 j c3) j _ rfl (HOWN.out _) ⟨wr.heap.size, 0, none⟩ 1 1 [.int .i64 p, .int .i64 u, .int .i64 o] rfl rfl HNEW.out (by simp [Value.oneCell']) (by unfold maxLen; omega) (by omega) (by simp; omega) ?_; intro a' c' w' ho hg; obtain ⟨g1, g2⟩ := HEND.out a' c' w' ho hg; clear ho hg)
      all_goals
        go_wp2
        exact ⟨⟨j + 1, by omega, by go_num, g1, g2⟩, by simp [intOf]; omega⟩
    · have hlen : j = G.length := by omega
      subst hlen
      rw [List.take_length] at hown
      obtain ⟨a', c', rfl, hn, -⟩ := own_nds hown
      go_wp2
      go_ret
      exact ⟨a', c', rfl, hn, hb⟩
end Go.Proofs.Ytimgpikgkbjliaa
