/-
  Below and Kids.
-/
import Derived.Test.YtbceadnhfihlfaaP6
import Derived.BigQuiet
namespace Go.Proofs.Ytbceadnhfihlfaa
open Go.RowKit

theorem below_drawn {B : Nat} {w w' : World} (h : Below B w w') (n : Nat) : Below B w (w'.drewN n) := ⟨h.os, h.tape, h.output, h.size, h.block⟩
theorem own_mono {w : World} {B B' e c n : Nat} {v : Value} {xs : List Value} (h : w.ownsRow B e c v n xs) (hb : B' ≤ B) : w.ownsRow B' e c v n xs := by
  refine ⟨h.1, ?_⟩
  rcases h.2 with hn | ⟨g, cap, cur, h1, h2, h3⟩
  · exact .inl hn
  · exact .inr ⟨g, cap, cur, h1, Nat.le_trans hb h2, h3⟩

set_option maxHeartbeats 2000000 in
theorem pbelow1 (B t b c : Nat) (G : Gr) (g x : Int) (w : World) (hT : TreeIs B w t G) (hb : RowAt w b 24 [.pointer (some ⟨t, 0, none⟩)]) (hc : RowAt w c 3 [.int .i64 g]) :
    Calls Try.prog 32 #[.int .i64 x, .pointer (some ⟨b, 0, none⟩), .pointer (some ⟨c, 0, none⟩)] w fun e w' => e = .returned (.bool (has G g x)) ∧ Below w.heap.size w w' := by
  have k0 : w.cell? ⟨b, 0, none⟩ = some (.pointer (some ⟨t, 0, none⟩)) := by rw [hb.cell]; rfl
  have k1 : w.cell? ⟨c, 0, none⟩ = some (.int .i64 g) := by rw [hc.cell]; rfl
  have HW : Hid (Calls Try.prog 33 #[.pointer (some ⟨t, 0, none⟩), .int .i64 x, .int .i64 g] w fun e w' => e = .returned (.bool (has G g x)) ∧ Below w.heap.size w w') := pwithin B t G x g w hT
  clear hT hb hc
  go_enter Try.func32, Try.ntmps32
  go_wp2_with fail
  refine HW.out.mono ?_
  rintro e w1 ⟨rfl, hb1⟩
  go_wp2
  go_ret
  exact ⟨rfl, hb1⟩

set_option maxHeartbeats 2000000 in
theorem pkids1 (B t b c : Nat) (G : Gr) (g x : Int) (w : World) (hT : TreeIs B w t G) (hb : RowAt w b 24 [.pointer (some ⟨t, 0, none⟩)]) (hc : RowAt w c 3 [.int .i64 g]) :
    Calls Try.prog 34 #[.int .i64 x, .pointer (some ⟨b, 0, none⟩), .pointer (some ⟨c, 0, none⟩)] w fun e w' => e = .returned (.bool (kid G g x)) ∧ Below w.heap.size w w' := by
  have k0 : w.cell? ⟨b, 0, none⟩ = some (.pointer (some ⟨t, 0, none⟩)) := by rw [hb.cell]; rfl
  have k1 : w.cell? ⟨c, 0, none⟩ = some (.int .i64 g) := by rw [hc.cell]; rfl
  have HL : Hid (∀ w, TreeIs B w t G → Calls Try.prog 18 #[.pointer (some ⟨t, 0, none⟩), .int .i64 x] w fun e w' => e = .returned (.int .i64 (par G x)) ∧ w' = w) := fun w h => ppar B t G x w h
  by_cases h0 : x = 0
  · subst h0
    have hd : ((0 : Int) != 0) = false := rfl
    have HP : Hid (kid G g 0 = false) := by simp [Hid, kid]
    clear hT hb hc HL
    go_enter Try.func34, Try.ntmps34
    go_wp2
    go_quiet (fail)
    go_wp2
    go_ret
    exact ⟨by rw [HP.out]; rfl, below_drawn (Below.refl _ _) _⟩
  · have hd : (x != 0) = true := by simp; omega
    obtain ⟨q, hq⟩ : ∃ q, q = par G x := ⟨_, rfl⟩
    have HP : Hid (kid G g x = (q == g)) := by simp [Hid, kid, h0, hq]
    rw [← hq] at HL
    clear hq hb hc h0
    have HD : Hid (∀ n, TreeIs B (w.drewN n) t G) := fun n => hT.below ⟨rfl, rfl, rfl, Nat.le_refl _, fun _ _ => rfl⟩
    clear hT
    go_enter Try.func34, Try.ntmps34
    go_wp2
    go_quiet ((go_at_call 18; exact (HL.out _ (HD.out _)).mono fun e w' h => ⟨h.1, _, h.2⟩))
    go_wp2
    go_ret
    exact ⟨by rw [HP.out]; rfl, below_drawn (Below.refl _ _) _⟩

set_option maxHeartbeats 2000000 in
theorem pbelow (B t : Nat) (G : Gr) (g : Int) (w : World) (hT : TreeIs B w t G) :
    Calls Try.prog 25 #[.pointer (some ⟨t, 0, none⟩), .int .i64 g] w fun e w' => ∃ v, e = .returned v ∧ w'.ownsRow w.heap.size 3 1 v (bel G g).length ((bel G g).map iv) ∧ Below w.heap.size w w' := by
  have hu := upW_size w t g
  have hb := upW_below w t g
  have ht := upW_t w t g
  have hg : RowAt (upW w t g) (w.heap.size + 1) 3 [.int .i64 g] := by
    have := RowAt.new (w.alloc (.cells #[.pointer (some ⟨t, 0, none⟩)] 24)) #[.int .i64 g] 3
    rw [World.size_alloc] at this
    exact this
  have hT1 := hT.below hb
  have HP := pthose B t G (has G g) 32 (.inl rfl) w.heap.size (w.heap.size + 1) (upW w t g) hT1 fun x W _ hW => pbelow1 B t w.heap.size (w.heap.size + 1) G g x W (hT1.below hW) (ht.below hW (by omega)) (hg.below hW (by omega))
  have HQ : Hid (Calls Try.prog 31 #[.pointer (some ⟨t, 0, none⟩), .func (.func 32) #[] #[.pointer (some ⟨w.heap.size, 0, none⟩), .pointer (some ⟨w.heap.size + 1, 0, none⟩)]] ((w.alloc (.cells #[.pointer (some ⟨t, 0, none⟩)] 24)).alloc (.cells #[.int .i64 g] 3)) fun e w' => ∃ v, e = .returned v ∧ w'.ownsRow w.heap.size 3 1 v (bel G g).length ((bel G g).map iv) ∧ Below w.heap.size w w') := by
    refine HP.mono ?_
    rintro e w' ⟨v, h1, h2, h3⟩
    exact ⟨v, h1, own_mono h2 (by omega), hb.trans (h3.mono (by omega))⟩
  clear HP hT hT1 hg ht hb hu
  go_enter Try.func25, Try.ntmps25
  go_wp2_with fail
  refine HQ.out.mono ?_
  rintro e w1 ⟨v, rfl, h2, h3⟩
  go_wp2
  go_ret
  exact ⟨v, rfl, h2, h3⟩

set_option maxHeartbeats 2000000 in
theorem pkids (B t : Nat) (G : Gr) (g : Int) (w : World) (hT : TreeIs B w t G) :
    Calls Try.prog 27 #[.pointer (some ⟨t, 0, none⟩), .int .i64 g] w fun e w' => ∃ v, e = .returned v ∧ w'.ownsRow w.heap.size 3 1 v (kids G g).length ((kids G g).map iv) ∧ Below w.heap.size w w' := by
  have hu := upW_size w t g
  have hb := upW_below w t g
  have ht := upW_t w t g
  have hg : RowAt (upW w t g) (w.heap.size + 1) 3 [.int .i64 g] := by
    have := RowAt.new (w.alloc (.cells #[.pointer (some ⟨t, 0, none⟩)] 24)) #[.int .i64 g] 3
    rw [World.size_alloc] at this
    exact this
  have hT1 := hT.below hb
  have HP := pthose B t G (kid G g) 34 (.inr rfl) w.heap.size (w.heap.size + 1) (upW w t g) hT1 fun x W _ hW => pkids1 B t w.heap.size (w.heap.size + 1) G g x W (hT1.below hW) (ht.below hW (by omega)) (hg.below hW (by omega))
  have HQ : Hid (Calls Try.prog 31 #[.pointer (some ⟨t, 0, none⟩), .func (.func 34) #[] #[.pointer (some ⟨w.heap.size, 0, none⟩), .pointer (some ⟨w.heap.size + 1, 0, none⟩)]] ((w.alloc (.cells #[.pointer (some ⟨t, 0, none⟩)] 24)).alloc (.cells #[.int .i64 g] 3)) fun e w' => ∃ v, e = .returned v ∧ w'.ownsRow w.heap.size 3 1 v (kids G g).length ((kids G g).map iv) ∧ Below w.heap.size w w') := by
    refine HP.mono ?_
    rintro e w' ⟨v, h1, h2, h3⟩
    exact ⟨v, h1, own_mono h2 (by omega), hb.trans (h3.mono (by omega))⟩
  clear HP hT hT1 hg ht hb hu
  go_enter Try.func27, Try.ntmps27
  go_wp2_with fail
  refine HQ.out.mono ?_
  rintro e w1 ⟨v, rfl, h2, h3⟩
  go_wp2
  go_ret
  exact ⟨v, rfl, h2, h3⟩
end Go.Proofs.Ytbceadnhfihlfaa
