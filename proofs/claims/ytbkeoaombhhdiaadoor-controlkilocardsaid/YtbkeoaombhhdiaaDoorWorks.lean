/-
  The document's example.
-/
import Derived.Test.YtbkeoaombhhdiaaDoorW1
namespace Go.Proofs.YtbkeoaombhhdiaaDoor
open Go.RowKit

def tA : ByteArray := ⟨#[97, 110, 111, 110]⟩
def tB : ByteArray := ⟨#[102, 105, 108, 101, 95, 49]⟩
def tS : ByteArray := ⟨#[97, 110, 111, 110, 32, 53, 10, 102, 105, 108, 101, 95, 49, 32, 45, 55, 10]⟩
theorem ex_rd : rd tMaxF [52, 75, 10] = (2, 4096, 0) := by decide
theorem ex_st : stOk (tx [tA, tB]) 2 = true ∧ statT (tx [tA, tB]) [5, -7] = tS.data.toList := by decide
theorem ex_v : I64s [5, -7] := by
  intro x hx
  rcases List.mem_cons.1 hx with rfl | hx
  · exact ⟨by decide, by decide⟩
  · rw [List.mem_singleton.1 hx]
    exact ⟨by decide, by decide⟩
theorem ex_e : stE (tx [tA, tB]) [5, -7] = .returned (.tuple #[.string tS, .int .i64 0]) := by
  rw [stE_yes (V := [5, -7]) ex_st.1, ex_st.2]
theorem ex_par : par tS.data.toList = some (tx [tA, tB], [5, -7]) := (par_iff _ _ _).2 ⟨ex_st.1, ex_st.2, ex_v⟩
theorem ex_w : isW [97, 95, 49] = true := by decide
theorem ex_world (w1 : World) : Strs ((w1.alloc (.cells #[.string ⟨#[97, 110, 111, 110]⟩, .string ⟨#[102, 105, 108, 101, 95, 49]⟩] 9)).alloc (.cells #[.int .i64 5, .int .i64 (-7)] 3)) (some ⟨w1.heap.size, 0, Option.none⟩) [tA, tB] ∧
    Ints ((w1.alloc (.cells #[.string ⟨#[97, 110, 111, 110]⟩, .string ⟨#[102, 105, 108, 101, 95, 49]⟩] 9)).alloc (.cells #[.int .i64 5, .int .i64 (-7)] 3)) (some ⟨w1.heap.size + 1, 0, Option.none⟩) [5, -7] ∧
    Below w1.heap.size w1 ((w1.alloc (.cells #[.string ⟨#[97, 110, 111, 110]⟩, .string ⟨#[102, 105, 108, 101, 95, 49]⟩] 9)).alloc (.cells #[.int .i64 5, .int .i64 (-7)] 3)) := by
  have h1 : RowAt (w1.alloc (.cells #[.string ⟨#[97, 110, 111, 110]⟩, .string ⟨#[102, 105, 108, 101, 95, 49]⟩] 9)) w1.heap.size 9 [.string tA, .string tB] := RowAt.new w1 #[.string ⟨#[97, 110, 111, 110]⟩, .string ⟨#[102, 105, 108, 101, 95, 49]⟩] 9
  have h2 := RowAt.new (w1.alloc (.cells #[.string ⟨#[97, 110, 111, 110]⟩, .string ⟨#[102, 105, 108, 101, 95, 49]⟩] 9)) #[.int .i64 5, .int .i64 (-7)] 3
  have h3 := h1.alloc (.cells #[.int .i64 5, .int .i64 (-7)] 3)
  rw [World.size_alloc] at h2
  refine ⟨fun i hi => ⟨w1.heap.size, 0, rfl, ?_⟩, fun i hi => ⟨w1.heap.size + 1, 0, rfl, ?_⟩, ((Below.refl _ _).alloc (Nat.le_refl _) _).alloc (by simp) _⟩
  · rw [Nat.zero_add, h3.cell]
    match i, hi with
    | 0, _ => rfl
    | 1, _ => rfl
  · rw [Nat.zero_add, h2.cell]
    match i, hi with
    | 0, _ => rfl
    | 1, _ => rfl
set_option maxRecDepth 100000 in
set_option maxHeartbeats 4000000 in
theorem works_any (w : World) (ht : Tabs w) : Calls Tryd.prog 9 #[] w fun e w' => e = .returned (.bool true) ∧ Below w.heap.size w w' := by
  have HT : Hid (Tabs w) := ht
  have HR : Hid (∀ w, Tabs w → Calls Tryd.prog 10 #[.string ⟨#[109, 101, 109, 111, 114, 121, 46, 109, 97, 120]⟩, .string ⟨#[52, 75, 10]⟩] w fun e w' => e = .returned (.tuple #[.int .i64 2, .int .i64 4096, .int .i64 0]) ∧ Below w.heap.size w w') := fun w h => by
    refine (pread ⟨#[109, 101, 109, 111, 114, 121, 46, 109, 97, 120]⟩ ⟨#[52, 75, 10]⟩ w (by decide) h).mono ?_
    rintro e w' ⟨rfl, hb⟩
    exact ⟨by rw [show (rd (⟨#[109, 101, 109, 111, 114, 121, 46, 109, 97, 120]⟩ : ByteArray).data.toList (⟨#[52, 75, 10]⟩ : ByteArray).data.toList) = (2, 4096, 0) from ex_rd]; rfl, hb⟩
  have HS : Hid (∀ (a b : Option Addr) (c c2 : Nat) (w : World), Strs w a [tA, tB] → Ints w b [5, -7] → Tabs w → Calls Tryd.prog 15 #[.slice a 2 c, .slice b 2 c2] w fun e w' => e = .returned (.tuple #[.string tS, .int .i64 0]) ∧ Below w.heap.size w w') := fun a b c c2 w h1 h2 h3 => by
    refine (pstat a b c c2 [tA, tB] [5, -7] w h1 (fun s hs => by rcases List.mem_cons.1 hs with rfl | hs; decide; rw [List.mem_singleton.1 hs]; decide) h2 ex_v (by decide) h3).mono ?_
    rintro e w' ⟨rfl, hb⟩
    exact ⟨ex_e, hb⟩
  have HP : Hid (∀ w, Tabs w → Calls Tryd.prog 17 #[.string tS] w fun e w' => (∃ (a a2 : Option Addr) (c c2 : Nat), e = .returned (.tuple #[.slice a 2 c, .slice a2 2 c2, .int .i64 0]) ∧ ∃ b o, a2 = some ⟨b, o, none⟩ ∧ w'.cell? ⟨b, o + 1, none⟩ = some (.int .i64 (-7))) ∧ Below w.heap.size w w') := fun w h => by
    refine (pparse tS w (by decide) h).mono ?_
    rintro e w' ⟨hp, hb⟩
    rw [ex_par] at hp
    obtain ⟨N, a, a2, c, c2, hN, rfl, hs, hi⟩ := hp
    have hl : N.length = 2 := by
      have := congrArg List.length hN
      rw [tx_length] at this
      exact this
    refine ⟨⟨a, a2, c, c2, by rw [hl]; rfl, ?_⟩, hb⟩
    obtain ⟨b, o, e, hc⟩ := hi 1 (by decide)
    exact ⟨b, o, e, hc⟩
  have HSH : Hid (∀ w, Tabs w → Calls Tryd.prog 12 #[.int .i64 1099511627776] w fun e w' => e = .returned (.string ⟨#[109, 97, 120]⟩) ∧ Below w.heap.size w w') := fun w h => by
    refine (pshow 1099511627776 ⟨by decide, by decide⟩ w h).mono ?_
    rintro e w' ⟨rfl, hb⟩
    exact ⟨rfl, hb⟩
  have HWD : Hid (∀ w, Calls Tryd.prog 21 #[.string ⟨#[97, 95, 49]⟩] w fun e w' => e = .returned (.bool true) ∧ w' = w) := fun w => by
    refine (pword ⟨#[97, 95, 49]⟩ w (by decide)).mono ?_
    rintro e w' ⟨rfl, rfl⟩
    exact ⟨by rw [show isW (⟨#[97, 95, 49]⟩ : ByteArray).data.toList = true from ex_w], rfl⟩
  clear ht
  go_enter Tryd.func9, Tryd.ntmps9
  go_wp2_with fail
  refine (HR.out _ HT.out).mono ?_
  rintro e w1 ⟨rfl, hb1⟩
  go_wp2_with fail
  obtain ⟨e1, e2, e3⟩ := ex_world w1
  have hb2 : Below w.heap.size w ((w1.alloc (.cells #[.string ⟨#[97, 110, 111, 110]⟩, .string ⟨#[102, 105, 108, 101, 95, 49]⟩] 9)).alloc (.cells #[.int .i64 5, .int .i64 (-7)] 3)) := hb1.trans (e3.mono hb1.size)
  refine (HS.out _ _ _ _ _ e1 e2 (HT.out.below hb2)).mono ?_
  rintro e w3 ⟨rfl, hb3⟩
  have hb3' := hb2.trans (hb3.mono hb2.size)
  clear e1 e2 e3 hb1 hb2 hb3
  go_wp2_with fail
  refine (HP.out _ (HT.out.below hb3')).mono ?_
  rintro e w4 ⟨⟨a, a2, c, c2, rfl, b, o, rfl, hc⟩, hb4⟩
  have hb4' := hb3'.trans (hb4.mono hb3'.size)
  clear hb4
  have hts : (tS.toList == [97, 110, 111, 110, 32, 53, 10, 102, 105, 108, 101, 95, 49, 32, 45, 55, 10]) = true := by rw [ByteArray.toList_eq]; rfl
  go_wp2_with fail
  refine (HSH.out _ (HT.out.below hb4')).mono ?_
  rintro e w5 ⟨rfl, hb5⟩
  have hm : ((⟨#[109, 97, 120]⟩ : ByteArray).toList == [109, 97, 120]) = true := by rw [ByteArray.toList_eq]; rfl
  go_wp2_with fail
  refine (HWD.out _).mono ?_
  rintro e w6 ⟨rfl, rfl⟩
  go_wp2_with fail
  go_ret
  exact ⟨rfl, hb4'.trans (hb5.mono hb4'.size)⟩
end Go.Proofs.YtbkeoaombhhdiaaDoor
