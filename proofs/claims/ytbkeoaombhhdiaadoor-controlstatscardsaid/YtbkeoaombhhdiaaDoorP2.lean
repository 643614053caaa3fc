/-
  Numbers read back: number, upTo, written; Read and Show.
-/
import Derived.Test.YtbkeoaombhhdiaaDoorP1
import Derived.ScopeJumps
import Derived.Lib.LaidTab
namespace Go.Proofs.YtbkeoaombhhdiaaDoor
open Go.RowKit

theorem gPow : Tryd.prog.globalNamed "internal/strconv.uint64pow10" = some 2 := by kernel_rfl
/-- The two tables that the program reads. -/
structure Tabs (w : World) : Prop where
  pow : Lib.TabIs Tryd.prog w "internal/strconv.uint64pow10" .u64 Lib.pow10Tab
  files : ∀ (j : Nat) (T : Bs), tFiles[j]? = some T → w.cell? ⟨0, j, none⟩ = some (.string ⟨T.toArray⟩)
theorem tabIs_below {w w' : World} {name : String} {k : IntKind} {zs : List Int} (h : Lib.TabIs Tryd.prog w name k zs) (hb : Below w.heap.size w w') : Lib.TabIs Tryd.prog w' name k zs := by
  unfold Lib.TabIs World.var? at *
  cases hg : Tryd.prog.globalNamed name with
  | none => simp [hg] at h
  | some g =>
    simp only [hg, Option.bind_some] at h ⊢
    have hlt : g < w.heap.size := by
      rcases Nat.lt_or_ge g w.heap.size with h' | h'
      · exact h'
      · rw [Array.getElem?_eq_none h'] at h; simp at h
    rw [hb.block g hlt]
    exact h
theorem Tabs.below {w w' : World} (h : Tabs w) (hb : Below w.heap.size w w') : Tabs w' :=
  ⟨tabIs_below h.pow hb, fun j T hj => cell_later hb (h.files j T hj)⟩
theorem Tabs.size {w : World} (h : Tabs w) : 0 < w.heap.size := by
  have := h.files 0 tMin rfl
  exact block_lt_of_cell (a := ⟨0, 0, none⟩) this
theorem below_grow (w : World) (k : Nat) (os : Array Obj) : Below w.heap.size w (Sort.grow (w.drewN k) os) :=
  ⟨rfl, rfl, rfl, by simp [Sort.grow], fun i hi => by
    have := Sort.heap_grow_old (w.drewN k) os (k := i) hi
    rw [this]; rfl⟩
/-- A string of bytes. -/
abbrev str (T : Bs) : ByteArray := ⟨T.toArray⟩
theorem pitoa (n : Int) (h : i64 n) (w : World) (ht : Tabs w) : Calls Tryd.prog 27 #[.int .i64 n] w fun e w' => e = .returned (.string (str (dgI n))) ∧ Below w.heap.size w w' := by
  refine (Tryd.strconv_Itoa n h.1 h.2 w ht.pow).mono ?_
  rintro e w' ⟨rfl, k, os, rfl⟩
  rw [itoa_dgI]
  exact ⟨rfl, below_grow w k os⟩
theorem pre45 (a : UInt8) : ((45 : UInt8) == a) = decide (a = 45) := by
  rw [Bool.eq_iff_iff, beq_iff_eq, decide_eq_true_eq]
  exact eq_comm
theorem cutM_trim (T : Bs) : Lib.trimPrefix T [45] = cutM T ∧ Lib.hasPrefix T [45] = decide (T.head? = some 45) := by
  cases T with
  | nil => exact ⟨rfl, rfl⟩
  | cons a T =>
    have e : Lib.hasPrefix (a :: T) [45] = decide ((a :: T).head? = some 45) := by
      simp [Lib.hasPrefix, List.isPrefixOf, pre45]
    refine ⟨?_, e⟩
    unfold Lib.trimPrefix cutM
    rw [e]
    simp
theorem pcutM (s : ByteArray) (w : World) : Calls Tryd.prog 43 #[.string s, .string ⟨#[45]⟩] w fun e w' => e = .returned (.tuple #[.string (str (cutM s.data.toList)), .bool (decide (s.data.toList.head? = some 45))]) ∧ w' = w := by
  refine (Tryd.strings_CutPrefix s ⟨#[45]⟩ w).mono ?_
  rintro e w' ⟨rfl, rfl⟩
  have := cutM_trim s.data.toList
  have e1 : (⟨#[45]⟩ : ByteArray).data.toList = [45] := rfl
  rw [e1, this.1, this.2]
  exact ⟨rfl, rfl⟩
/-- The first k bytes, read as digits. -/
def upD (d : ByteArray) (k : Nat) : Int := foldD (d.data.toList.take k)
theorem upD_zero (d : ByteArray) : upD d 0 = 0 := rfl
theorem upD_i64 (d : ByteArray) (k : Nat) : -9223372036854775808 ≤ upD d k ∧ upD d k ≤ 9223372036854775807 := foldD_i64 _
theorem upD_succ (d : ByteArray) (k : Nat) (h : k < d.size) : upD d (k + 1) = wrap64 (wrap64 (wrap64 (upD d k * 10) + (d[k].toNat : Int)) - 48) := by
  unfold upD
  rw [take_snoc d k h, foldD_snoc]
  unfold step rnd wrap64
  omega
theorem upD_end (d : ByteArray) : upD d d.size = foldD d.data.toList := by
  unfold upD
  rw [List.take_of_length_le (by simp)]
/-- What holds at each jump back to the label. -/
def Jn (s d : ByteArray) (m : Bool) (w : World) (a' : Act) (w' : World) : Prop := w' = w ∧ ∃ (k : Nat) (u8 u9 u10 u11 u12 u13 u14 u15 u16 u17 u18 u19 u20 u21 u22 u23 u24 u25 u26 u27 u28 u29 u30 u31 u32 u33 u34 : Value), k ≤ d.size ∧
  a' = { tmps := #[.string s, undef, .int .i64 0, .bool false, .string d, .bool m, .int .i64 (upD d k), .int .i64 k, u8, u9, u10, u11, u12, u13, u14, u15, u16, u17, u18, u19, u20, u21, u22, u23, u24, u25, u26, u27, u28, u29, u30, u31, u32, u33, u34], defers := [] }
theorem Jn.mk {s d : ByteArray} {m : Bool} {w w' : World} {n i : Int} {k : Nat} {u8 u9 u10 u11 u12 u13 u14 u15 u16 u17 u18 u19 u20 u21 u22 u23 u24 u25 u26 u27 u28 u29 u30 u31 u32 u33 u34 : Value} (hw : w' = w) (hk : k ≤ d.size) (hn : n = upD d k) (hi : i = (k : Int)) :
    Jn s d m w { tmps := #[.string s, undef, .int .i64 0, .bool false, .string d, .bool m, .int .i64 n, .int .i64 i, u8, u9, u10, u11, u12, u13, u14, u15, u16, u17, u18, u19, u20, u21, u22, u23, u24, u25, u26, u27, u28, u29, u30, u31, u32, u33, u34], defers := [] } w' := by
  subst hw hn hi
  exact ⟨rfl, k, _, _, _, _, _, _, _, _, _, _, _, _, _, _, _, _, _, _, _, _, _, _, _, _, _, _, _, hk, rfl⟩
/-- What the function makes of its digits. -/
def endN (m : Bool) (n : Int) : Int := if m = true then rnd (-n) else n
theorem endN_i64 (m : Bool) {n : Int} (h : i64 n) : i64 (endN m n) := by
  unfold endN
  split
  · exact rnd_i64 _
  · exact h
theorem wrap_i64 (n : Int) : i64 (wrap64 n) := by unfold i64 wrap64; omega
theorem endN_true (n : Int) : endN true n = wrap64 (-n) := by
  unfold endN
  rw [if_pos rfl]
  unfold rnd wrap64
  omega
theorem endN_false (n : Int) : endN false n = n := by
  unfold endN
  rw [if_neg (by simp)]
theorem endN_num {s d : ByteArray} {m : Bool} (hd : str (cutM s.data.toList) = d) (hm : decide (s.data.toList.head? = some 45) = m) : endN m (upD d d.size) = numN s.data.toList := by
  rw [upD_end, ← hd, ← hm]
  unfold endN numN
  by_cases h : s.data.toList.head? = some 45
  · rw [if_pos h, if_pos (by simpa using h)]
  · rw [if_neg h, if_neg (by simpa using h)]
theorem ret_num {a b : Int} {x y : Bool} (h : a = b) (k : x = y) : Ending.returned (.tuple #[.int .i64 a, .bool x]) = .returned (.tuple #[.int .i64 b, .bool y]) := by rw [h, k]
theorem same_str (T : Bs) (s : ByteArray) : (T == s.toList) = decide (T = s.data.toList) := by
  rw [ByteArray.toList_eq, Bool.eq_iff_iff, beq_iff_eq, decide_eq_true_eq]
set_option maxRecDepth 100000 in
set_option maxHeartbeats 1000000 in
theorem pnumber (s : ByteArray) (w : World) (hs : s.size ≤ maxLen) (ht : Tabs w) :
    Calls Tryd.prog 33 #[.string s] w fun e w' => e = .returned (.tuple #[.int .i64 (numN s.data.toList), .bool (numOk s.data.toList)]) ∧ Below w.heap.size w w' := by
  unfold maxLen at hs
  obtain ⟨d, hd⟩ : ∃ d : ByteArray, str (cutM s.data.toList) = d := ⟨_, rfl⟩
  have hds : d.size ≤ s.size := by
    rw [← hd]
    show (cutM s.data.toList).length ≤ _
    unfold cutM
    split
    · simp
    · simp
  obtain ⟨m, hm⟩ : ∃ m : Bool, decide (s.data.toList.head? = some 45) = m := ⟨_, rfl⟩
  have HE : Hid (endN m (upD d d.size) = numN s.data.toList) := endN_num hd hm
  go_enter Tryd.func33, Tryd.ntmps33
  go_wp2_with fail
  refine wp_scope_jumps 0 (Jn s d m w) (fun a' _ => d.size - (intOf (a'.tmps.getD 7 undef)).toNat) rfl ?_ ?_
  · go_wp2_with (go_at_call 43; refine (pcutM _ _).mono ?_; rintro e w' ⟨rfl, rfl⟩; rw [hd, hm])
    go_step3
    by_cases h0 : (0 : Int) < d.size
    · have HS : Hid (upD d 1 = wrap64 (wrap64 (wrap64 (upD d 0 * 10) + (d[0].toNat : Int)) - 48)) := upD_succ d 0 (by omega)
      go_wp2_with fail
      go_step3
      refine ⟨rfl, Jn.mk (k := 1) rfl (by omega) ?_ (by omega)⟩
      rw [HS.out, upD_zero]
      simp only [wrap64]
      omega
    · have hz : Hid (d.size = 0) := by show d.size = 0; omega
      cases m
      · have HF : Hid (0 = numN s.data.toList) := by
          have h := HE.out
          rw [hz.out, upD_zero] at h
          exact h
        go_wp2_with (go_at_call 27; refine (pitoa _ ⟨by decide, by decide⟩ _ ht).mono ?_; rintro e w1 ⟨rfl, hb1⟩)
        simp only [Exit.jump]
        go_ret2
        exact ⟨ret_num HF.out (by rw [same_str, HF.out]; rfl), hb1⟩
      · have HF : Hid (0 = numN s.data.toList) := by
          have h := HE.out
          rw [hz.out, upD_zero] at h
          exact h
        go_wp2_with (go_at_call 27; refine (pitoa _ ⟨by decide, by decide⟩ _ ht).mono ?_; rintro e w1 ⟨rfl, hb1⟩)
        simp only [Exit.jump]
        go_ret2
        exact ⟨ret_num HF.out (by rw [same_str, HF.out]; rfl), hb1⟩
  · rintro a' w' ⟨rfl, k, u8, u9, u10, u11, u12, u13, u14, u15, u16, u17, u18, u19, u20, u21, u22, u23, u24, u25, u26, u27, u28, u29, u30, u31, u32, u33, u34, hk, rfl⟩
    obtain ⟨n, hn⟩ : ∃ n, upD d k = n := ⟨_, rfl⟩
    have hup := upD_i64 d k
    rw [hn] at hup ⊢
    by_cases hlt : (k : Int) < d.size
    · have HS : Hid (upD d (k + 1) = wrap64 (wrap64 (wrap64 (n * 10) + (d[k].toNat : Int)) - 48)) := by rw [← hn]; exact upD_succ d k (by omega)
      go_wp2_with fail
      go_step3
      refine ⟨rfl, Jn.mk (k := k + 1) rfl (by omega) ?_ (by omega), ?_⟩
      · have hw : wrap64 (d[k].toNat : Int) = (d[k].toNat : Int) := by
          have := d[k].toNat_lt
          simp only [wrap64]
          omega
        rw [HS.out, hw]
      · simp [intOf]; omega
    · have HK : Hid (k = d.size) := by show k = d.size; omega
      cases m
      · have HF : Hid (n = numN s.data.toList) := by
          have h := HE.out
          rw [← HK.out, hn] at h
          exact h
        go_wp2_with (go_at_call 27; refine (pitoa _ hup _ ht).mono ?_; rintro e w1 ⟨rfl, hb1⟩)
        simp only [Exit.jump]
        go_ret2
        exact ⟨ret_num HF.out (by rw [same_str, HF.out]; rfl), hb1⟩
      · have HF : Hid (wrap64 (-n) = numN s.data.toList) := by
          have h := HE.out
          rw [← HK.out, hn, endN_true] at h
          exact h
        go_wp2_with (go_at_call 27; refine (pitoa _ (wrap_i64 _) _ ht).mono ?_; rintro e w1 ⟨rfl, hb1⟩)
        simp only [Exit.jump]
        go_ret2
        exact ⟨ret_num HF.out (by rw [same_str, HF.out]; rfl), hb1⟩
end Go.Proofs.YtbkeoaombhhdiaaDoor
