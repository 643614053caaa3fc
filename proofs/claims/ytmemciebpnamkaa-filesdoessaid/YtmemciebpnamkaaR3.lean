/-
  The document's store: contract of New.
-/
import Derived.Test.YtmemciebpnamkaaR2
namespace Go.Proofs.Ytmemciebpnamkaa
open Go.RowKit

theorem RefIs.newS {w w1 w' : World} {B r : Nat} {S : List Nat} {L : List Ent} {vs vl : Value} {x : Nat} {a' : Option Addr} {c' : Nat} (h : RefIs w B r S L vs vl) (hb : Below w.heap.size w w1)
    (hown : w'.ownsRow B 3 1 (.slice a' (S.length + 1) c') (S.length + 1) (S.map iv ++ [iv x])) (hg : w1.grownBy w' vs.ownBlock) (h32 : S.length < 32) (hx : x ≤ 4096) :
    w'.cell? ⟨r, 0, none⟩ = some vs ∧ w'.frozen? ⟨r, 0, none⟩ = false ∧ RefIs (w'.setCell ⟨r, 0, none⟩ (.slice a' (S.length + 1) c')) B r (S ++ [x]) L (.slice a' (S.length + 1) c') vl ∧ Turn (fun k => B ≤ k) w (w'.setCell ⟨r, 0, none⟩ (.slice a' (S.length + 1) c')) := by
  have hvl : ∀ k, vs.ownBlock = some k → B ≤ k ∧ ∃ cur, w.heap[k]? = some (.cells cur 3 (0, 0)) := by
    intro k hk
    rcases h.s.2 with ⟨rfl, _⟩ | ⟨g, cap, cur, rfl, hg, hgg, _⟩
    · simp [Value.ownBlock] at hk
    · simp [Value.ownBlock] at hk
      subst hk
      exact ⟨hg, cur, hgg⟩
  have hkeep : ∀ (k : Nat) (t : TypeId) cur, t ≠ 3 → w.heap[k]? = some (.cells cur t (0, 0)) → w'.heap[k]? = some (.cells cur t (0, 0)) := by
    intro k t cur ht hk
    have hlt := lt_of_block hk
    rw [hg.block k (Nat.lt_of_lt_of_le hlt hb.size) ?_, hb.block k hlt, hk]
    intro hh
    obtain ⟨_, cur', h2⟩ := hvl k hh.symm
    rw [hk] at h2
    injection h2 with h2
    injection h2 with _ h2
    exact ht h2
  have hrow : RowAt w' r 34 [vs, vl] := hkeep r 34 _ (by decide) h.h
  have hrowL : w'.ownsRow B 53 3 vl L.length (flat L) := by
    refine ⟨h.l.1, ?_⟩
    rcases h.l.2 with hn | ⟨g, cap, cur, rfl, hg, hgg, rest⟩
    · exact .inl hn
    · exact .inr ⟨g, cap, cur, rfl, hg, hkeep g 53 cur (by decide) hgg, rest⟩
  have hset : ∀ (v : Value) (t : TypeId) (c n : Nat) xs, t ≠ 34 → w'.ownsRow B t c v n xs → (w'.setCell ⟨r, 0, none⟩ (.slice a' (S.length + 1) c')).ownsRow B t c v n xs := by
    intro v t c n xs ht ho
    refine ⟨ho.1, ?_⟩
    rcases ho.2 with hn | ⟨g, cap, cur, rfl, hg, hgg, rest⟩
    · exact .inl hn
    · refine .inr ⟨g, cap, cur, rfl, hg, ?_, rest⟩
      rw [heap_setCell_other w' _ g _ ?_]
      · exact hgg
      · rintro rfl
        unfold RowAt at hrow
        rw [hgg] at hrow
        injection hrow with h2
        injection h2 with _ h2
        exact ht h2
  refine ⟨by rw [hrow.cell]; rfl, hrow.frozen 0, ⟨?_, ?_, hset _ _ _ _ _ (by decide) hrowL, h.lo, by simp; omega, fun k => ?_⟩, ?_⟩
  · have := hrow.set 0 (.slice a' (S.length + 1) c')
    simpa using this
  · rw [List.length_append, List.map_append]
    exact hset _ _ _ _ _ (by decide) hown
  · by_cases hk : k < S.length
    · have := h.sz k
      simpa [List.getElem?_append_left hk] using this
    · by_cases hk2 : k = S.length
      · subst hk2; simpa using hx
      · have : (S ++ [x])[k]? = none := by simp; omega
        simp [this]
  · have t1 : Turn (fun k => B ≤ k) w w1 := Turn.ofBelow hb
    have t2 : Turn (fun k => B ≤ k) w1 w' := ⟨hg.os, hg.tape, hg.output, hg.size, fun k hk hn => hg.block k hk (fun hh => hn (hvl k hh.symm).1)⟩
    exact (t1.trans t2).trans (Turn.ofBut (But.setCell r 0 _ _) h.lo)

theorem clamp_le (x : Int) : clamp x ≤ 4096 := by unfold clamp; omega
theorem take_next (l : List Int) (k : Nat) (hk : k < (sizesOf l).length) (x : Int) (hx : x = l.getD k 0) : (sizesOf l).take k ++ [clamp x] = (sizesOf l).take (k + 1) := by
  rw [← List.take_append_getElem hk]
  congr 2
  have := sizesOf_at l k hk
  rw [hx, ← this]
  simp [hk]
theorem ref_start (w : World) : RefIs (w.alloc (.cells #[.slice none 0 0, .slice none 0 0] 34)) w.heap.size w.heap.size [] [] (.slice none 0 0) (.slice none 0 0) :=
  ⟨RowAt.new w #[.slice none 0 0, .slice none 0 0] 34, World.ownsRow_nil _ _ _ _, World.ownsRow_nil _ _ _ _, Nat.le_refl _, by simp, by simp⟩

set_option maxHeartbeats 4000000 in
theorem rnew (a : Option Addr) (cap : Nat) (l : List Int) (w : World) (hc : IntsAt w a l) (hl : l.length ≤ 1000000) :
    Calls Try.prog 9 #[.slice a l.length cap] w fun e w' => ∃ r vs vl, e = .returned (.pointer (some ⟨r, 0, none⟩)) ∧ RefIs w' w.heap.size r (sizesOf l) [] vs vl ∧ Below w.heap.size w w' := by
  have hSl := sizesOf_len l
  have htn := take_next l
  obtain ⟨S, hS⟩ : ∃ S, S = sizesOf l := ⟨_, rfl⟩
  rw [← hS] at hSl htn ⊢
  have HTN : Hid (∀ k, k < S.length → ∀ x, x = l.getD k 0 → S.take k ++ [clamp x] = S.take (k + 1)) := htn
  have HN : Hid (S.length = min l.length 32) := hSl
  have hn32 : S.length ≤ 32 := by omega
  have hnl : S.length ≤ l.length := by omega
  clear hS htn hSl
  go_enter Try.func9, Try.ntmps9
  go_wp2
  go_loopw [4] (fun s4 wr => ∃ k : Nat, k ≤ S.length ∧ s4 = .int .i64 k ∧ (∃ vs, RefIs wr w.heap.size w.heap.size (S.take k) [] vs (.slice none 0 0)) ∧ Below w.heap.size w wr) (fun s4 _ => S.length - (intOf s4).toNat)
  case atStart => exact ⟨0, by omega, rfl, ⟨_, by simpa using ref_start w⟩, below_alloc _ _⟩
  case round =>
    obtain ⟨k, hk, rfl, ⟨vs, hr⟩, hb⟩ := hrel
    by_cases hlt : k < S.length
    · have hkl : k < l.length := by omega
      have hk32 : k < 32 := by omega
      have hcr := hc.below hb
      obtain ⟨ab, off, rfl, hx⟩ := hcr k hkl
      obtain ⟨x, hxx⟩ : ∃ x, x = l.getD k 0 := ⟨_, rfl⟩
      rw [← hxx] at hx
      have hTl : (S.take k).length = k := by simp; omega
      have HX : Hid (S.take k ++ [clamp x] = S.take (k + 1)) := HTN.out k hlt x hxx
      have hc0 := hr.c0
      have hws : w.heap.size ≤ wr.heap.size := hb.size
      have HOWN : Hid (∀ o, (wr.alloc o).drew.ownsRow w.heap.size 3 1 vs k ((S.take k).map iv)) := fun o => by have := ((hr.alloc o).drewN 1).s; rw [hTl] at this; exact this
      have HC0 : Hid (∀ o, (wr.alloc o).cell? ⟨w.heap.size, 0, none⟩ = some vs) := fun o => (hr.alloc o).c0
      have HNEW : Hid (∀ z : Int, ∀ j u, ([.int .i64 z] : List Value)[j]? = some u → (wr.alloc (.cells #[.int .i64 z] 3)).drew.cell? ((⟨wr.heap.size, 0, none⟩ : Addr).add j) = some u) := by
        intro z j u hu
        have hnew := (RowAt.new wr #[.int .i64 z] 3).cell j
        rw [Addr.add_mid, Nat.zero_add]
        exact hnew.trans hu
      have HEND : Hid (∀ (z : Int), z = clamp x → ∀ a' c' w', w'.ownsRow w.heap.size 3 1 (.slice a' (k + 1) c') (k + 1) ((S.take k).map iv ++ [.int .i64 z]) → (wr.alloc (.cells #[.int .i64 z] 3)).drew.grownBy w' vs.ownBlock →
          w'.cell? ⟨w.heap.size, 0, none⟩ = some vs ∧ w'.frozen? ⟨w.heap.size, 0, none⟩ = false ∧ RefIs (w'.setCell ⟨w.heap.size, 0, none⟩ (.slice a' (k + 1) c')) w.heap.size w.heap.size (S.take (k + 1)) [] (.slice a' (k + 1) c') (.slice none 0 0) ∧ Below w.heap.size w (w'.setCell ⟨w.heap.size, 0, none⟩ (.slice a' (k + 1) c'))) := by
        intro z hz a' c' w' ho hg
        subst hz
        have := RefIs.newS (x := clamp x) (a' := a') (c' := c') hr (below_drawn (below_alloc _ (.cells #[.int .i64 (clamp x)] 3)) 1) (by rw [hTl]; exact ho) hg (by rw [hTl]; exact hk32) (clamp_le x)
        rw [hTl, HX.out] at this
        obtain ⟨g1, g2, g3, g4⟩ := this
        exact ⟨g1, g2, g3, hb.trans (g4.below (fun _ h => h) hws)⟩
      obtain ⟨z, hz⟩ : ∃ z : Int, z = if 4096 < if x < 0 then 0 else x then 4096 else if x < 0 then 0 else x := ⟨_, rfl⟩
      have HC : Hid (z = clamp x) := by show _ = _; rw [hz]; unfold clamp; split <;> split <;> omega
      have hc0x := HC0.out (.cells #[.int .i64 z] 3)
      rw [hz] at hc0x HC
      clear hxx hcr hc hr hb HX hz
      go_wp2
      go_region_law (refine step_append_own rfl (.tmp 21) (.tmp 28) 22 rfl w.heap.size 3 _ 1 8 Try.underlying22 info3 rfl (by decide) vs k _ rfl (HOWN.out _) ⟨wr.heap.size, 0, none⟩ 1 1 [.int .i64 _] rfl rfl (HNEW.out _) (by simp [Value.oneCell']) (by unfold maxLen; omega) (by omega) (by simp; omega) ?_; intro a' c' w' ho hg; obtain ⟨g1, g2, g3, g4⟩ := HEND.out _ HC.out a' c' w' ho hg; clear ho hg)
      all_goals
        go_wp2
        exact ⟨⟨k + 1, by omega, by go_num, ⟨_, g3⟩, g4⟩, by simp [intOf]; omega⟩
    · have hkk : k = S.length := by omega
      subst hkk
      rw [List.take_length] at hr
      clear hc
      by_cases q : l.length ≤ 32
      · have hq : l.length = S.length := by have := HN.out; omega
        have hd : decide ((S.length : Int) < (l.length : Int)) = false := by simp; omega
        go_wp2
        go_ret
        exact ⟨_, vs, _, rfl, hr, hb⟩
      · have hq : S.length = 32 := by have := HN.out; omega
        have hd : decide ((S.length : Int) < (l.length : Int)) = true := by simp; omega
        have hd2 : decide ((S.length : Int) < 32) = false := by simp; omega
        go_wp2
        go_ret
        exact ⟨_, vs, _, rfl, hr, hb⟩
end Go.Proofs.Ytmemciebpnamkaa
