/-
  The program's Stat: lines written to a builder.
-/
import Derived.Test.YtbkeoaombhhdiaaDoorP5
import Derived.Lib.SmallJoins
namespace Go.Proofs.YtbkeoaombhhdiaaDoor
open Go.RowKit

/-- A row of ints as it lies in memory, whoever laid it. -/
def Ints (w : World) (a : Option Addr) (V : List Int) : Prop :=
  ∀ i (h : i < V.length), ∃ b off, a = some ⟨b, off, none⟩ ∧ w.cell? ⟨b, off + i, none⟩ = some (.int .i64 V[i])
theorem Ints.below {w w' : World} {a : Option Addr} {V : List Int} (h : Ints w a V) (hb : Below w.heap.size w w') : Ints w' a V := by
  intro i hi
  obtain ⟨b, off, rfl, hc⟩ := h i hi
  exact ⟨b, off, rfl, cell_later hb hc⟩
def I64s (V : List Int) : Prop := ∀ x ∈ V, i64 x

/-! ### a builder in a world that grows -/
theorem grown_below {w w' : World} (hb : Below w.heap.size w w') : w.grownBy w' Option.none := ⟨hb.os, hb.tape, hb.output, hb.size, fun k hk _ => hb.block k hk⟩
theorem builderAt_below {B b : Nat} {p : Value} {bs : List Value} {w w' : World} (h : Lib.BuilderAt 50 5 B b p bs w) (hb : Below w.heap.size w w') : Lib.BuilderAt 50 5 B b p bs w' := by
  have hlt := h.lt
  obtain ⟨hB, v, hv, hown, hne⟩ := h
  refine ⟨hB, v, by rw [hb.block b hlt]; exact hv, hown.kept (grown_below hb) ?_, hne⟩
  cases hv2 : v.ownBlock with
  | none => exact Or.inl rfl
  | some k => exact Or.inr (by simp)
theorem builder_below {B b : Nat} {bs : List Value} {w w' : World} (h : Lib.IsBuilder 50 5 B b bs w) (hb : Below w.heap.size w w') : Lib.IsBuilder 50 5 B b bs w' :=
  h.elim (fun h => Or.inl (builderAt_below h hb)) (fun h => Or.inr (builderAt_below h hb))

/-! ### how long a line is -/
theorem dg_len {n : Nat} (h : n ≤ 9223372036854775808) : (dg n).length ≤ 19 := dg_len_le 18 n (by omega)
theorem dgI_len {n : Int} (h : i64 n) : (dgI n).length ≤ 20 := by
  unfold i64 at h
  unfold dgI
  split
  · have := dg_len (n := (-n).toNat) (by omega)
    simp only [List.length_cons]
    omega
  · have := dg_len (n := n.toNat) (by omega)
    omega
theorem isW_len {T : Bs} (h : isW T = true) : T.length ≤ 40 := by
  simp only [isW, Bool.and_eq_true, decide_eq_true_eq] at h
  exact h.2.2
theorem line_len {nm : Bs} {v : Int} (h1 : isW nm = true) (h2 : i64 v) : (line nm v).length ≤ 62 := by
  have := isW_len h1
  have := dgI_len h2
  simp only [line, List.length_append, List.length_cons, List.length_nil]
  omega
theorem stat_len : ∀ (N : List Bs) (V : List Int), N.all isW = true → I64s V → (statT N V).length ≤ 62 * N.length
  | [], V, _, _ => by cases V <;> simp [statT]
  | nm :: N, [], _, _ => by simp [statT]
  | nm :: N, v :: V, h, hv => by
    simp only [List.all_cons, Bool.and_eq_true] at h
    have h1 := line_len (v := v) h.1 (hv v (by simp))
    have h2 := stat_len N V h.2 (fun x hx => hv x (by simp [hx]))
    show (line nm v ++ statT N V).length ≤ _
    simp only [List.length_append, List.length_cons]
    omega
/-- The first k lines. -/
def upS (L : List ByteArray) (V : List Int) (k : Nat) : Bs := statT (tx (L.take k)) (V.take k)
theorem upS_zero (L : List ByteArray) (V : List Int) : upS L V 0 = [] := rfl
theorem upS_succ {L : List ByteArray} {V : List Int} {k : Nat} (h1 : k < L.length) (h2 : k < V.length) : upS L V (k + 1) = upS L V k ++ line L[k].data.toList V[k] := by
  unfold upS
  rw [tx_snoc h1, List.take_succ_eq_append_getElem h2]
  refine stat_snoc _ _ ?_ _ _
  rw [tx_length]
  simp
  omega
theorem upS_end {L : List ByteArray} {V : List Int} (h : L.length = V.length) : upS L V L.length = statT (tx L) V := by
  unfold upS
  rw [List.take_length, h, List.take_length]
theorem upS_len {L : List ByteArray} {V : List Int} (h : (tx L).all isW = true) (hv : I64s V) (k : Nat) (hk : k ≤ 100) : (upS L V k).length ≤ 6200 := by
  have := stat_len (tx (L.take k)) (V.take k) (by
    rw [List.all_eq_true] at h ⊢
    intro x hx
    obtain ⟨y, hy, rfl⟩ := List.mem_map.1 hx
    exact h _ (List.mem_map.2 ⟨y, List.mem_of_mem_take hy, rfl⟩)) (fun x hx => hv x (List.mem_of_mem_take hx))
  rw [tx_length, List.length_take] at this
  unfold upS
  omega
theorem dat_append (a b : ByteArray) : (a ++ b).data.toList = a.data.toList ++ b.data.toList := by
  rw [ByteArray.data_append]
  simp
theorem line_str (s : ByteArray) (v : Int) : (s ++ (⟨#[32]⟩ : ByteArray) ++ str (dgI v) ++ (⟨#[10]⟩ : ByteArray)).data.toList = line s.data.toList v := by
  rw [dat_append, dat_append, dat_append]
  simp [line]
theorem cells_line (T : Bs) (s : ByteArray) (v : Int) : Lib.byteCells T ++ Lib.strCells (s ++ (⟨#[32]⟩ : ByteArray) ++ str (dgI v) ++ (⟨#[10]⟩ : ByteArray)) = Lib.byteCells (T ++ line s.data.toList v) := by
  unfold Lib.strCells Lib.byteCells
  rw [line_str, List.map_append]

theorem ret_str {a b : ByteArray} {x y : Int} (h : a = b) (k : x = y) : Ending.returned (.tuple #[.string a, .int .i64 x]) = .returned (.tuple #[.string b, .int .i64 y]) := by rw [h, k]
/-- What Stat tells. -/
def stE (N : List Bs) (V : List Int) : Ending := if stOk N V.length = true then .returned (.tuple #[.string (str (statT N V)), .int .i64 0]) else .returned (.tuple #[.string ⟨#[]⟩, .int .i64 1])
theorem stE_yes {N : List Bs} {V : List Int} (h : stOk N V.length = true) : stE N V = .returned (.tuple #[.string (str (statT N V)), .int .i64 0]) := by unfold stE; rw [if_pos h]
theorem stE_no {N : List Bs} {V : List Int} (h : stOk N V.length = false) : stE N V = .returned (.tuple #[.string ⟨#[]⟩, .int .i64 1]) := by unfold stE; rw [if_neg (by rw [h]; simp)]
set_option maxRecDepth 100000 in
set_option maxHeartbeats 4000000 in
theorem pstat (a b : Option Addr) (cap cap2 : Nat) (L : List ByteArray) (V : List Int) (w : World) (hL : Strs w a L) (hS : Short L) (hV : Ints w b V) (h64 : I64s V) (hs1 : L.length ≤ 9223372036854775807) (ht : Tabs w) :
    Calls Tryd.prog 15 #[.slice a L.length cap, .slice b V.length cap2] w fun e w' => e = stE (tx L) V ∧ Below w.heap.size w w' := by
  have HL : Hid (Strs w a L) := hL
  have HS : Hid (Short L) := hS
  have HV : Hid (Ints w b V) := hV
  have HT : Hid (Tabs w) := ht
  have HM : Hid (∀ w, Strs w a L → Calls Tryd.prog 29 #[.slice a L.length cap] w fun e w' => e = .returned (.bool (mayS (tx L))) ∧ Below w.heap.size w w') := fun w h => pmay a cap L w h hS
  by_cases h1 : L.length = V.length
  · cases hm : mayS (tx L) with
    | false =>
      have HE : Hid (stE (tx L) V = .returned (.tuple #[.string ⟨#[]⟩, .int .i64 1])) := stE_no (by rw [stOk_may, hm]; simp)
      have h1' : ((L.length : Int) != (V.length : Int)) = false := by simp; omega
      clear h1 hL hS hV
      go_enter Tryd.func15, Tryd.ntmps15
      go_wp2_with (go_at_call 29; refine (HM.out _ HL.out).mono ?_; rintro e w1 ⟨rfl, hb1⟩; rw [hm])
      go_ret2
      exact ⟨HE.out.symm, hb1⟩
    | true =>
      have hk := hm
      simp only [mayS, Bool.and_eq_true, decide_eq_true_eq] at hk
      obtain ⟨hl, hall, -⟩ := hk
      rw [tx_length] at hl
      have HA : Hid ((tx L).all isW = true) := hall
      have HE : Hid (stE (tx L) V = .returned (.tuple #[.string (str (upS L V L.length)), .int .i64 0])) := by
        show stE (tx L) V = _
        rw [upS_end h1]
        refine stE_yes ?_
        rw [stOk_may, hm, tx_length]
        simpa using h1
      have h1' : ((L.length : Int) != (V.length : Int)) = false := by simp; omega
      have H1 : Hid (L.length = V.length) := h1
      have H6 : Hid (I64s V) := h64
      clear h1 hL hS hV hall h64 ht
      go_enter Tryd.func15, Tryd.ntmps15
      go_wp2_with (go_at_call 29; refine (HM.out _ HL.out).mono ?_; rintro e w1 ⟨rfl, hb1⟩; rw [hm])
      go_loopw [21] (fun i wr => ∃ k : Nat, k ≤ L.length ∧ i = .int .i64 k ∧ Lib.IsBuilder 50 5 w1.heap.size w1.heap.size (Lib.byteCells (upS L V k)) wr ∧ Below w1.heap.size w1 wr) (fun i _ => L.length - (intOf i).toNat)
      case atStart => exact ⟨0, Nat.zero_le _, rfl, Lib.fresh_isBuilder 50 5 w1, (Below.refl _ _).alloc (Nat.le_refl _) _⟩
      case round =>
        obtain ⟨k, hk, rfl, hbu, hbr⟩ := hrel
        have hbw : Below w.heap.size w wr := hb1.trans (hbr.mono hb1.size)
        by_cases hlt : k < L.length
        · obtain ⟨c1, o1, rfl, hc⟩ := HL.out k hlt
          have hlt2 : k < V.length := by have := H1.out; omega
          obtain ⟨c2, o2, rfl, hd⟩ := HV.out k hlt2
          obtain ⟨s, hs⟩ : ∃ s, L[k] = s := ⟨_, rfl⟩
          obtain ⟨v, hv⟩ : ∃ v, V[k] = v := ⟨_, rfl⟩
          rw [hs] at hc
          rw [hv] at hd
          have hcx : wr.cell? ⟨c1, o1 + k, none⟩ = some (.string s) := cell_later hbw hc
          have hdx : wr.cell? ⟨c2, o2 + k, none⟩ = some (.int .i64 v) := cell_later hbw hd
          have Hv : Hid (i64 v) := by rw [← hv]; exact H6.out _ (List.getElem_mem hlt2)
          have Hw : Hid (isW s.data.toList = true) := by
            rw [← hs]
            exact List.all_eq_true.1 HA.out _ (List.mem_map.2 ⟨_, List.getElem_mem hlt, rfl⟩)
          have hsz : s.size ≤ 40 := isW_len Hw.out
          have hdz : (dgI v).length ≤ 20 := dgI_len Hv.out
          have HN : Hid (upS L V (k + 1) = upS L V k ++ line s.data.toList v) := by rw [← hs, ← hv]; exact upS_succ hlt hlt2
          have HB : Hid ((Lib.byteCells (upS L V k)).length ≤ 6200) := by
            have := upS_len HA.out H6.out k (by omega)
            show (Lib.byteCells (upS L V k)).length ≤ 6200
            simpa [Lib.byteCells] using this
          have HTr : Hid (Tabs wr) := HT.out.below hbw
          have HH : Hid ((Lib.byteCells (upS L V k)).length + (s ++ (⟨#[32]⟩ : ByteArray) ++ str (dgI v) ++ (⟨#[10]⟩ : ByteArray)).size ≤ 140737488355328) := by
            have h1 := HB.out
            have h2 := line_len (nm := s.data.toList) (v := v) Hw.out Hv.out
            rw [← line_str] at h2
            have e : ∀ x : ByteArray, x.data.toList.length = x.size := fun x => by simp
            rw [e] at h2
            show _ ≤ _
            omega
          clear hs hv hc hd
          go_wp2_with (first
            | (go_at_call 27; refine (pitoa _ Hv.out _ HTr.out).mono ?_; rintro e w2 ⟨rfl, hb2⟩)
            | (go_at_call 30; refine (Tryd.Builder_WriteString w1.heap.size w1.heap.size _ _ _ (builder_below hbu hb2) HH.out (Nat.le_trans hbr.size hb2.size)).mono ?_; rintro e w3 ⟨rfl, hbu3, hb3⟩))
          rw [cells_line, ← HN.out] at hbu3
          go_roundw
          case rel => exact ⟨k + 1, by omega, by go_num, Or.inr hbu3, (hbr.trans (hb2.mono hbr.size)).trans hb3⟩
          case measure => simp [intOf]; omega
        · obtain rfl : k = L.length := by omega
          go_wp2_with (go_at_call 31; refine (Tryd.Builder_String_any w1.heap.size w1.heap.size _ _ hbu hbr.size).mono ?_; rintro e w3 ⟨rfl, hb3⟩)
          go_ret2
          exact ⟨HE.out.symm, (hbw.trans (hb3.mono hb1.size))⟩
  · have HE : Hid (stE (tx L) V = .returned (.tuple #[.string ⟨#[]⟩, .int .i64 1])) := stE_no (by
      rw [stOk_may, tx_length]
      have : decide (L.length = V.length) = false := by simpa using h1
      rw [this]; rfl)
    have h1' : ((L.length : Int) != (V.length : Int)) = true := by simp; omega
    clear h1 hL hS hV
    go_enter Tryd.func15, Tryd.ntmps15
    go_wp2_with fail
    go_ret2
    exact ⟨HE.out.symm, Below.refl _ _⟩
end Go.Proofs.YtbkeoaombhhdiaaDoor
