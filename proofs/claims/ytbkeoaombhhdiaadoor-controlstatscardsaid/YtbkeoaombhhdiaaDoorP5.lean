/-
  Rows of texts in memory; names that may stand in one stat, kept in a map.
-/
import Derived.Test.YtbkeoaombhhdiaaDoorP4
import Derived.Maps.OwnSet
import Derived.Maps.Own
namespace Go.Proofs.YtbkeoaombhhdiaaDoor
open Go.RowKit Go.Maps Go.WideMaps

/-- A row of texts as it lies in memory, whoever laid it. -/
def Strs (w : World) (a : Option Addr) (L : List ByteArray) : Prop :=
  ∀ i (h : i < L.length), ∃ b off, a = some ⟨b, off, none⟩ ∧ w.cell? ⟨b, off + i, none⟩ = some (.string L[i])
theorem Strs.nil (w : World) (a : Option Addr) : Strs w a [] := fun i h => by cases h
theorem Strs.below {w w' : World} {a : Option Addr} {L : List ByteArray} (h : Strs w a L) (hb : Below w.heap.size w w') : Strs w' a L := by
  intro i hi
  obtain ⟨b, off, rfl, hc⟩ := h i hi
  exact ⟨b, off, rfl, cell_later hb hc⟩
/-- The names as lists of bytes. -/
def tx (L : List ByteArray) : List Bs := L.map (·.data.toList)
theorem tx_length (L : List ByteArray) : (tx L).length = L.length := by simp [tx]
def Short (L : List ByteArray) : Prop := ∀ s ∈ L, s.size ≤ maxLen

/-! ### a set of names, counted -/
def keysN (T : List Bs) : List Lit := T.map Lit.string
def addN (L : List Bs) (x : Bs) : List Bs := if L.contains x then L else L ++ [x]
theorem any_key (x : Bs) : ∀ L : List Bs, (keysN L).any (fun y => y.sameKey (.string x)) = L.contains x
  | [] => rfl
  | a :: r => by
    show ((Lit.string a).sameKey (.string x) || (keysN r).any (fun y => y.sameKey (.string x))) = _
    rw [List.contains_cons, any_key x r]
    congr 1
    have hi := WideAt.sameKey_iff (a := .string a) (b := .string x) trivial
    rw [Bool.eq_iff_iff, hi, beq_iff_eq]
    constructor
    · intro h; injection h with h; exact h.symm
    · intro h; rw [h]
theorem fold_key : ∀ (X L : List Bs), (keysN X).foldl addKey (keysN L) = keysN (X.foldl addN L)
  | [], _ => rfl
  | x :: X, L => by
    show (keysN X).foldl addKey (addKey (keysN L) (.string x)) = keysN (X.foldl addN (addN L x))
    have e : addKey (keysN L) (.string x) = keysN (addN L x) := by
      unfold addKey addN
      rw [any_key]
      split
      · rfl
      · simp [keysN]
    rw [e, fold_key X]
theorem fold_len : ∀ (X L : List Bs), (X.foldl addN L).length ≤ L.length + X.length ∧ ((X.foldl addN L).length = L.length + X.length ↔ X.Nodup ∧ ∀ x ∈ X, x ∉ L)
  | [], L => by simp
  | x :: X, L => by
    have ih := fold_len X (addN L x)
    have e0 : ((x :: X).foldl addN L) = X.foldl addN (addN L x) := rfl
    rw [e0]
    by_cases h : x ∈ L
    · have e : addN L x = L := by unfold addN; rw [if_pos (by simpa using h)]
      rw [e] at ih ⊢
      refine ⟨by simp only [List.length_cons]; omega, ⟨fun hh => ?_, fun hh => absurd h (hh.2 x (by simp))⟩⟩
      exfalso
      simp only [List.length_cons] at hh
      omega
    · have e : addN L x = L ++ [x] := by unfold addN; rw [if_neg (by simpa using h)]
      rw [e] at ih ⊢
      refine ⟨by have := ih.1; simp only [List.length_append, List.length_cons, List.length_nil] at this ⊢; omega, ?_⟩
      have hl : L.length + (x :: X).length = (L ++ [x]).length + X.length := by simp; omega
      rw [hl, ih.2]
      constructor
      · rintro ⟨h1, h2⟩
        refine ⟨List.nodup_cons.2 ⟨fun hx => h2 x hx (by simp), h1⟩, fun y hy hyl => ?_⟩
        rcases List.mem_cons.1 hy with rfl | hy
        · exact h hyl
        · exact h2 y hy (by simp [hyl])
      · rintro ⟨h1, h2⟩
        obtain ⟨h3, h4⟩ := List.nodup_cons.1 h1
        refine ⟨h4, fun y hy hyl => ?_⟩
        rcases List.mem_append.1 hyl with k | k
        · exact h2 y (by simp [hy]) k
        · rw [List.mem_singleton.1 k] at hy
          exact h3 hy
/-- The set of the first k names. -/
def setN (T : List Bs) : DataW Unit := setOf (.agg []) (keysN T)
theorem setN_snoc (T : List Bs) (x : Bs) : setN (T ++ [x]) = (setN T).put (.string x) (.agg []) := by
  unfold setN keysN
  rw [List.map_append, List.map_singleton, setOf_snoc]
theorem size_setN (T : List Bs) : (Maps.size (setN T) = T.length) ↔ T.Nodup := by
  unfold setN
  rw [size_setOf _ _ (fun x hx => by obtain ⟨_, _, rfl⟩ := List.mem_map.1 hx; trivial)]
  have e := fold_key T []
  have e0 : keysN [] = [] := rfl
  rw [e0] at e
  rw [e]
  have := (fold_len T []).2
  simp only [List.length_nil, Nat.zero_add] at this
  have el : (keysN (T.foldl addN [])).length = (T.foldl addN []).length := by simp [keysN]
  rw [el, this]
  simp

/-! ### the program's mayStand -/
theorem law9 : Keyed Tryd.prog 9 := string_keyed Tryd.underlying9
theorem may_long {L : List ByteArray} (h : 100 < L.length) : mayS (tx L) = false := by
  unfold mayS
  have : decide ((tx L).length ≤ 100) = false := by rw [tx_length]; simpa using h
  rw [this]
  rfl
theorem may_other {L : List ByteArray} {k : Nat} (hk : k < L.length) (h : isW L[k].data.toList = false) : mayS (tx L) = false := by
  have : (tx L).all isW = false := by
    rw [Bool.eq_false_iff]
    intro ha
    have := List.all_eq_true.1 ha L[k].data.toList (List.mem_map.2 ⟨L[k], List.getElem_mem hk, rfl⟩)
    rw [h] at this
    cases this
  unfold mayS
  rw [this]
  simp
/-- The first k are names. -/
def upN (L : List ByteArray) (k : Nat) : Bool := (tx (L.take k)).all isW
theorem upN_succ {L : List ByteArray} {k : Nat} (hk : k < L.length) (h : upN L k = true) (hw : isW L[k].data.toList = true) : upN L (k + 1) = true := by
  unfold upN tx at *
  rw [List.take_succ_eq_append_getElem hk, List.map_append, List.all_append, h]
  simp [hw]
theorem tx_snoc {L : List ByteArray} {k : Nat} (hk : k < L.length) : tx (L.take (k + 1)) = tx (L.take k) ++ [L[k].data.toList] := by
  unfold tx
  rw [List.take_succ_eq_append_getElem hk, List.map_append]
  rfl
theorem may_end {L : List ByteArray} (hl : L.length ≤ 100) (h : upN L L.length = true) : mayS (tx L) = ((Maps.size (setN (tx L)) : Int) == (L.length : Int)) := by
  unfold upN at h
  rw [List.take_length] at h
  unfold mayS
  have e1 : decide ((tx L).length ≤ 100) = true := by rw [tx_length]; simpa using hl
  rw [e1, h]
  have := size_setN (tx L)
  rw [tx_length] at this
  rw [Bool.eq_iff_iff]
  simp only [Bool.true_and, decide_eq_true_eq, beq_iff_eq]
  rw [← this]
  constructor <;> intro h <;> omega
set_option maxRecDepth 100000 in
set_option maxHeartbeats 2000000 in
theorem pmay (a : Option Addr) (cap : Nat) (L : List ByteArray) (w : World) (hL : Strs w a L) (hS : Short L) :
    Calls Tryd.prog 29 #[.slice a L.length cap] w fun e w' => e = .returned (.bool (mayS (tx L))) ∧ Below w.heap.size w w' := by
  have hmm := @run_makeMap Tryd.prog
  have HL : Hid (Strs w a L) := hL
  have HS : Hid (Short L) := hS
  by_cases h1 : 100 < L.length
  · rw [may_long h1]
    go_enter Tryd.func29, Tryd.ntmps29
    go_wp2_with fail
    go_ret
    exact ⟨rfl, Below.refl _ _⟩
  clear hL hS
  go_enter Tryd.func29, Tryd.ntmps29
  go_wp2_with fail
  go_loopw [12] (fun i wr => ∃ k : Nat, k ≤ L.length ∧ i = .int .i64 k ∧ Hid (upN L k = true) ∧ wr.ownsMap Tryd.prog 9 (unitElem (H := Unit)) w.heap.size k (setN (tx (L.take k))) ∧ Below w.heap.size w wr)
    (fun i _ => L.length - (intOf i).toNat)
  case atStart => exact ⟨0, Nat.zero_le _, rfl, rfl, World.ownsMap_made _ _ _ _, (Below.refl _ _).alloc (Nat.le_refl _) _⟩
  case round =>
    obtain ⟨k, hk, rfl, HU, hown, hnx⟩ := hrel
    by_cases hlt : k < L.length
    · obtain ⟨b, off, rfl, hc⟩ := HL.out k hlt
      obtain ⟨s, hs⟩ : ∃ s, L[k] = s := ⟨_, rfl⟩
      rw [hs] at hc
      have hcx : wr.cell? ⟨b, off + k, none⟩ = some (.string s) := by rw [hnx.cell (p := ⟨b, off + k, none⟩) (block_lt_of_cell (a := ⟨b, off + k, none⟩) hc)]; exact hc
      have hZ : Hid (s.size ≤ maxLen) := by rw [← hs]; exact HS.out _ (List.getElem_mem hlt)
      have HE : Hid (L[k] = s) := hs
      cases hw : isW s.data.toList with
      | false =>
        have HF : Hid (mayS (tx L) = false) := may_other hlt (by rw [HE.out]; exact hw)
        clear hs hc
        go_wp2_with (go_at_call 21; refine (pword _ _ hZ.out).mono ?_; rintro e w1 ⟨rfl, rfl⟩; rw [hw])
        go_ret
        exact ⟨ret_bool HF.out.symm, hnx⟩
      | true =>
        have hkey : keyOf Tryd.prog 9 (.string s) = some (.string s.data.toList) := keyOf_string_mk Tryd.underlying9 hZ.out
        have HN : Hid (upN L (k + 1) = true) := upN_succ hlt HU.out (by rw [HE.out]; exact hw)
        clear hs hc
        go_wp2_with (first
          | (go_at_call 21; refine (pword _ _ hZ.out).mono ?_; rintro e w1 ⟨rfl, rfl⟩; rw [hw])
          | (at_mapUpdate; refine wpList_mapUpdate_own _ rfl _ _ _ 64 rfl 9 65 law9 Tryd.underlying64 (unitElem (H := Unit)) w.heap.size k _ rfl hown (by unfold maxLen; omega) _ _ _ rfl rfl hkey _ [] unitElem_mk ?_; intro w1 hown1 hgrow1))
        go_roundw
        case rel => exact ⟨k + 1, by omega, by go_num, HN, by rw [tx_snoc hlt, HE.out, setN_snoc]; exact hown1, hnx.grown hgrow1 hnx.size (fun j hj => by cases hj; exact Nat.le_refl _)⟩
        case measure => simp [intOf]; omega
    · obtain rfl : k = L.length := by omega
      go_wp2_with (at_len; refine wpList_len_own _ rfl _ 64 rfl 9 65 Tryd.underlying64 _ w.heap.size _ _ rfl hown ?_)
      go_ret
      refine ⟨ret_bool ?_, hnx⟩
      rw [may_end (by omega) HU.out]
end Go.Proofs.YtbkeoaombhhdiaaDoor
