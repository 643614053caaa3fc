/-
  ControlNames, walked.
-/
import Derived.Test.YtbkeoaombhhdiaaDoorLStats
import Derived.Test.YtbkeoaombhhdiaaDoorP10
namespace Go.Proofs.YtbkeoaombhhdiaaDoor
open Go.RowKit

/-- Is a name one of the first k? -/
def inU (L : List ByteArray) (nm : ByteArray) (k : Nat) : Bool := (L.take k).any fun s => decide (s = nm)
theorem inU_succ {L : List ByteArray} {nm : ByteArray} {k : Nat} (h : k < L.length) : inU L nm (k + 1) = (inU L nm k || decide (L[k] = nm)) := by
  unfold inU
  rw [List.take_succ_eq_append_getElem h, List.any_append]
  simp
theorem inU_mem {L : List ByteArray} {nm : ByteArray} : inU L nm L.length = true ↔ nm.data.toList ∈ tx L := by
  unfold inU
  rw [List.take_length, List.any_eq_true]
  constructor
  · rintro ⟨s, hs, h⟩
    rw [decide_eq_true_eq] at h
    subst h
    exact List.mem_map.2 ⟨_, hs, rfl⟩
  · intro h
    obtain ⟨s, hs, h⟩ := List.mem_map.1 h
    exact ⟨s, hs, by rw [decide_eq_true_eq]; exact ba_ext h⟩
theorem nodup_app {l : List Bs} {x : Bs} : (l ++ [x]).Nodup ↔ l.Nodup ∧ x ∉ l := by
  rw [List.nodup_append]
  constructor
  · rintro ⟨h1, -, h3⟩
    exact ⟨h1, fun hm => h3 x hm x (by simp) rfl⟩
  · rintro ⟨h1, h2⟩
    refine ⟨h1, by simp, fun a ha b hb e => ?_⟩
    rw [List.mem_singleton.1 hb] at e
    subst e
    exact h2 ha
theorem st_more {L : List ByteArray} {V : List Int} {nm : ByteArray} (n : Int) (hok : stOk (tx L) V.length = true) (hl : L.length ≤ 90) :
    stOk (tx (L ++ [nm])) (V ++ [n]).length = (!(inU L nm L.length) && isW nm.data.toList) := by
  unfold stOk at hok
  simp only [Bool.and_eq_true, decide_eq_true_eq] at hok
  obtain ⟨h1, h2, h3, h4⟩ := hok
  rw [tx_length] at h1
  rw [Bool.eq_iff_iff]
  unfold stOk
  simp only [Bool.and_eq_true, decide_eq_true_eq, Bool.not_eq_true', tx_app]
  have hm := inU_mem (L := L) (nm := nm)
  rw [nodup_app, List.all_append]
  simp only [List.length_append, tx_length, List.length_cons, List.length_nil, List.all_cons, List.all_nil, Bool.and_true, Bool.and_eq_true]
  constructor
  · rintro ⟨-, -, ⟨-, h5⟩, -, h6⟩
    refine ⟨?_, h5⟩
    rw [Bool.eq_false_iff]
    exact fun h => h6 (hm.1 h)
  · rintro ⟨h5, h6⟩
    refine ⟨by omega, by omega, ⟨h3, h6⟩, h4, fun h => ?_⟩
    rw [hm.2 h] at h5
    cases h5
theorem st_text {L : List ByteArray} {V : List Int} {nm : ByteArray} (n : Int) (hok : stOk (tx L) V.length = true) : statT (tx (L ++ [nm])) (V ++ [n]) = statT (tx L) V ++ line nm.data.toList n := by
  rw [tx_app]
  refine stat_snoc _ _ ?_ _ _
  unfold stOk at hok
  simp only [Bool.and_eq_true, decide_eq_true_eq] at hok
  exact hok.1
theorem pre_str (A B : Bs) : (((str (A ++ B)).extract 0 (List.length A)).toList == A) = true := by
  rw [ByteArray.toList_eq, Lib.extract_data]
  show (((A ++ B).drop 0).take (A.length - 0) == A) = true
  simp
set_option maxRecDepth 100000 in
set_option maxHeartbeats 4000000 in
theorem names_walk (a : Option Addr) (cap : Nat) (L : List ByteArray) (b : Option Addr) (cap2 : Nat) (V : List Int) (name : ByteArray) (n : Int) (w : World) (ht : Tabs w) (hL : Strs w a L) (hS : Short L) (hl : L.length ≤ 9223372036854775807) (hca : a = none → cap = 0)
    (hV : Ints w b V) (h64 : I64s V) (hv : V.length ≤ 9223372036854775807) (hcb : b = none → cap2 = 0) (hz : name.size ≤ maxLen) (hn : i64 n) :
    Calls Tryd.prog 7 #[.slice a L.length cap, .slice b V.length cap2, .string name, .int .i64 n] w fun e w' => e = .returned (.bool true) ∧ Below w.heap.size w w' := by
  have HT : Hid (Tabs w) := ht
  have HL : Hid (Strs w a L) := hL
  have HV : Hid (Ints w b V) := hV
  have HCA : Hid (a = none → cap = 0) := hca
  have HCB : Hid (b = none → cap2 = 0) := hcb
  have HO : Hid (∀ w, Strs w a L → Calls Tryd.prog 14 #[.slice a L.length cap] w fun e w' => e = .returned (.bool (overB L)) ∧ w' = w) := fun w h => pover a cap L w h hl
  have HP : Hid (∀ w, Strs w a L → Ints w b V → Tabs w → Calls Tryd.prog 15 #[.slice a L.length cap, .slice b V.length cap2] w fun e w' => e = stE (tx L) V ∧ Below w.heap.size w w') := fun w h1 h2 h3 => pstat a b cap cap2 L V w h1 hS h2 h64 hl h3
  have HSL : Hid (Short (L ++ [name])) := fun s hs => by
    rcases List.mem_append.1 hs with k | k
    · exact hS s k
    · rw [List.mem_singleton.1 k]
      exact hz
  have HI6 : Hid (I64s (V ++ [n])) := fun x hx => by
    rcases List.mem_append.1 hx with k | k
    · exact h64 x k
    · rw [List.mem_singleton.1 k]
      exact hn
  have HW : Hid (∀ w, Calls Tryd.prog 21 #[.string name] w fun e w' => e = .returned (.bool (isW name.data.toList)) ∧ w' = w) := fun w => pword name w hz
  unfold maxLen at hz
  clear ht hL hV hS h64 hca hcb hn
  cases ho : overB L with
  | true =>
    go_enter Tryd.func7, Tryd.ntmps7
    go_wp2_with (go_at_call 9; refine (works_any _ HT.out).mono ?_; rintro e w1 ⟨rfl, hb1⟩)
    refine (HO.out _ (HL.out.below hb1)).mono ?_
    rintro e w2 ⟨rfl, hw2⟩
    rw [hw2, ho]
    clear hw2 w2
    go_wp2_with fail
    go_ret
    exact ⟨rfl, hb1⟩
  | false =>
    by_cases hbig : (120 : Int) < V.length ∨ (120 : Int) < name.size ∨ (90 : Int) < L.length
    · by_cases h1 : (120 : Int) < V.length
      · go_enter Tryd.func7, Tryd.ntmps7
        go_wp2_with (go_at_call 9; refine (works_any _ HT.out).mono ?_; rintro e w1 ⟨rfl, hb1⟩)
        refine (HO.out _ (HL.out.below hb1)).mono ?_
        rintro e w2 ⟨rfl, hw2⟩
        rw [hw2, ho]
        clear hw2 w2
        go_wp2_with fail
        go_ret
        exact ⟨rfl, hb1⟩
      · by_cases h2 : (120 : Int) < name.size
        · go_enter Tryd.func7, Tryd.ntmps7
          go_wp2_with (go_at_call 9; refine (works_any _ HT.out).mono ?_; rintro e w1 ⟨rfl, hb1⟩)
          refine (HO.out _ (HL.out.below hb1)).mono ?_
          rintro e w2 ⟨rfl, hw2⟩
          rw [hw2, ho]
          clear hw2 w2
          go_wp2_with fail
          go_ret
          exact ⟨rfl, hb1⟩
        · have h3 : (90 : Int) < L.length := by omega
          clear hbig
          go_enter Tryd.func7, Tryd.ntmps7
          go_wp2_with (go_at_call 9; refine (works_any _ HT.out).mono ?_; rintro e w1 ⟨rfl, hb1⟩)
          refine (HO.out _ (HL.out.below hb1)).mono ?_
          rintro e w2 ⟨rfl, hw2⟩
          rw [hw2, ho]
          clear hw2 w2
          go_wp2_with fail
          go_ret
          exact ⟨rfl, hb1⟩
    have h1 : ¬ (120 : Int) < V.length := by omega
    have h2 : ¬ (120 : Int) < name.size := by omega
    have h3 : ¬ (90 : Int) < L.length := by omega
    clear hbig
    cases hok : stOk (tx L) V.length with
    | false =>
      have HE := stE_no hok
      have HP2 : Hid (∀ w, Strs w a L → Ints w b V → Tabs w → Calls Tryd.prog 15 #[.slice a L.length cap, .slice b V.length cap2] w fun e w' => e = .returned (.tuple #[.string ⟨#[]⟩, .int .i64 1]) ∧ Below w.heap.size w w') := fun w h1 h2 h3 => by
        have := HP.out w h1 h2 h3
        rwa [HE] at this
      have hemp : (⟨#[]⟩ : ByteArray).toList.isEmpty = true := emp_yes rfl
      clear HE hok
      go_enter Tryd.func7, Tryd.ntmps7
      go_wp2_with (go_at_call 9; refine (works_any _ HT.out).mono ?_; rintro e w1 ⟨rfl, hb1⟩)
      refine (HO.out _ (HL.out.below hb1)).mono ?_
      rintro e w2 ⟨rfl, hw2⟩
      rw [hw2, ho]
      clear hw2 w2
      go_wp2_with fail
      refine (HP2.out _ (HL.out.below hb1) (HV.out.below hb1) (HT.out.below hb1)).mono ?_
      rintro e w2 ⟨rfl, hb2⟩
      go_wp2_with fail
      go_ret
      exact ⟨rfl, hb1.trans (hb2.mono hb1.size)⟩
    | true =>
      obtain ⟨st, hst⟩ : ∃ st, statT (tx L) V = st := ⟨_, rfl⟩
      have HE := stE_yes hok
      rw [hst] at HE
      have HP2 : Hid (∀ w, Strs w a L → Ints w b V → Tabs w → Calls Tryd.prog 15 #[.slice a L.length cap, .slice b V.length cap2] w fun e w' => e = .returned (.tuple #[.string (str st), .int .i64 0]) ∧ Below w.heap.size w w') := fun w h1 h2 h3 => by
        have := HP.out w h1 h2 h3
        rwa [HE] at this
      have HMO : Hid (stOk (tx (L ++ [name])) (V ++ [n]).length = (!(inU L name L.length) && isW name.data.toList)) := st_more n hok (by omega)
      have HTX : Hid (statT (tx (L ++ [name])) (V ++ [n]) = st ++ line name.data.toList n) := by
        show _ = _
        rw [st_text n hok, hst]
      have hl6 : L.length ≤ 1000000 := by omega
      have hv6 : V.length ≤ 1000000 := by omega
      clear HE hok hst
      go_enter Tryd.func7, Tryd.ntmps7
      go_wp2_with (go_at_call 9; refine (works_any _ HT.out).mono ?_; rintro e w1 ⟨rfl, hb1⟩)
      refine (HO.out _ (HL.out.below hb1)).mono ?_
      rintro e w2 ⟨rfl, hw2⟩
      rw [hw2, ho]
      clear hw2 w2
      go_wp2_with fail
      refine (HP2.out _ (HL.out.below hb1) (HV.out.below hb1) (HT.out.below hb1)).mono ?_
      rintro e w2 ⟨rfl, hb2⟩
      have hb2' := hb1.trans (hb2.mono hb1.size)
      clear hb1 hb2
      go_wp2_with (first
        | (at_builtin; refine app_strs w.heap.size _ rfl _ _ rfl rfl a cap L rfl HCA.out (HL.out.below hb2') hl6 hb2'.size ?_; intro v3 w3 hos3 hb3 hk3)
        | (at_builtin; refine app_str w.heap.size L _ rfl _ _ rfl v3 rfl hos3 name rfl hl6 (Nat.le_trans hb2'.size hb3.size) ?_; intro v4 w4 hos4 hb4 hk4; have hb4' := (hb2'.trans hb3).trans hb4)
        | (at_builtin; refine app_ints w.heap.size _ rfl _ _ rfl rfl b cap2 V rfl HCB.out (HV.out.below hb4') hv6 hb4'.size ?_; intro v5 w5 hoi5 hb5 hk5)
        | (at_builtin; refine app_int w.heap.size V _ rfl _ _ rfl v5 rfl hoi5 n rfl hv6 (Nat.le_trans hb4'.size hb5.size) ?_; intro v6 w6 hoi6 hb6 hk6))
      have hos6 := hk6 _ _ (hk5 _ _ hos4)
      have hb6' := (hb4'.trans hb5).trans hb6
      clear hk3 hk4 hk5 hk6 hos3 hos4 hoi5 hb2' hb3 hb4 hb4' hb5 hb6
      obtain ⟨a7, c7, rfl, hs7⟩ := hos6.form
      obtain ⟨a8, c8, rfl, hi8⟩ := hoi6.form
      obtain ⟨tt, ff, htf⟩ := stE_form (tx (L ++ [name])) (V ++ [n])
      have HTF : Hid (((!(inU L name L.length) && isW name.data.toList) = true ∧ tt = str (st ++ line name.data.toList n) ∧ ff = 0) ∨ ((!(inU L name L.length) && isW name.data.toList) = false ∧ ff = 1)) := by
        cases hm : (!(inU L name L.length) && isW name.data.toList) with
        | false =>
          have := stE_no (HMO.out.trans hm)
          rw [htf] at this
          injection this with this
          injection this with this
          simp at this
          exact Or.inr ⟨rfl, this.2⟩
        | true =>
          have := stE_yes (HMO.out.trans hm)
          rw [htf, HTX.out] at this
          injection this with this
          injection this with this
          simp at this
          exact Or.inl ⟨rfl, this.1, this.2⟩
      have HP3 : Hid (∀ w, Strs w a7 (L ++ [name]) → Ints w a8 (V ++ [n]) → Tabs w → Calls Tryd.prog 15 #[.slice a7 (L ++ [name]).length c7, .slice a8 (V ++ [n]).length c8] w fun e w' => e = .returned (.tuple #[.string tt, .int .i64 ff]) ∧ Below w.heap.size w w') := fun w h1 h2 h3 => by
        have := pstat a7 a8 c7 c8 (L ++ [name]) (V ++ [n]) w h1 HSL.out h2 HI6.out (by rw [List.length_append]; simp only [List.length_cons, List.length_nil]; omega) h3
        rwa [htf] at this
      clear htf hos6 hoi6
      refine (HP3.out _ hs7 hi8 (HT.out.below hb6')).mono ?_
      rintro e w7 ⟨rfl, hb7⟩
      have hb7' := hb6'.trans (hb7.mono hb6'.size)
      clear hb6' hb7 hs7 hi8
      go_wp2_with fail
      go_loop [16, 17] (fun s16 s17 => ∃ k : Nat, k ≤ L.length ∧ s17 = .int .i64 k ∧ s16 = .bool (inU L name k)) (fun _ s17 => L.length - (intOf s17).toNat)
      case atStart => exact ⟨0, Nat.zero_le _, rfl, rfl⟩
      case round =>
        obtain ⟨k, hk, rfl, rfl⟩ := hrel
        by_cases hlt : k < L.length
        · obtain ⟨c1, o1, rfl, hc⟩ := HL.out k hlt
          obtain ⟨z, hz'⟩ : ∃ z, L[k] = z := ⟨_, rfl⟩
          have hiu := inU_succ (nm := name) hlt
          rw [hz'] at hc hiu
          have hcx : w7.cell? ⟨c1, o1 + k, none⟩ = some (.string z) := cell_later hb7' hc
          clear hz' hc
          cases hin : inU L name k with
          | true =>
            have HN : Hid (inU L name (k + 1) = true) := by show _ = _; rw [hiu, hin]; rfl
            clear hiu
            go_wp2_with fail
            exact ⟨⟨k + 1, by omega, by go_num, by rw [HN.out]⟩, by simp [intOf]; omega⟩
          | false =>
            obtain ⟨q, hq⟩ : ∃ q, (z.toList == name.toList) = q := ⟨_, rfl⟩
            have HN : Hid (inU L name (k + 1) = q) := by
              show _ = _
              rw [hiu, hin, ← hq, bs_same]
              rfl
            clear hiu
            go_wp2_with fail
            exact ⟨⟨k + 1, by omega, by go_num, by rw [HN.out]⟩, by simp [intOf]; omega⟩
        · obtain rfl : k = L.length := by omega
          have hTF := HTF.out
          clear HTF
          cases hin : inU L name L.length with
          | true =>
            rw [hin] at hTF
            have hff : ff = 1 := by
              rcases hTF with ⟨h, -⟩ | ⟨-, h⟩
              · cases h
              · exact h
            subst hff
            clear hTF
            go_wp2_with fail
            go_ret
            exact ⟨rfl, hb7'⟩
          | false =>
            cases hw : isW name.data.toList with
            | false =>
              rw [hin, hw] at hTF
              have hff : ff = 1 := by
                rcases hTF with ⟨h, -⟩ | ⟨-, h⟩
                · cases h
                · exact h
              subst hff
              clear hTF
              go_wp2_with fail
              refine (HW.out _).mono ?_
              rintro e w8 ⟨rfl, hw8⟩
              rw [hw8, hw]
              clear hw8 w8
              go_wp2_with fail
              go_ret
              exact ⟨rfl, hb7'⟩
            | true =>
              rw [hin, hw] at hTF
              have hff : tt = str (st ++ line name.data.toList n) ∧ ff = 0 := by
                rcases hTF with ⟨-, h⟩ | ⟨h, -⟩
                · exact h
                · cases h
              obtain ⟨rfl, rfl⟩ := hff
              clear hTF
              have hlen : (str (st ++ line name.data.toList n)).size = st.length + (line name.data.toList n).length := by
                show (st ++ line name.data.toList n).length = _
                rw [List.length_append]
              have hpos : 0 < (line name.data.toList n).length := by
                unfold line
                simp only [List.length_append, List.length_cons]
                omega
              have HPR : Hid _ := pre_str st (line name.data.toList n)
              go_wp2_with fail
              refine (HW.out _).mono ?_
              rintro e w8 ⟨rfl, hw8⟩
              rw [hw8, hw]
              clear hw8 w8
              go_wp2_with fail
              go_ret
              exact ⟨ret_bool HPR.out, hb7'⟩
end Go.Proofs.YtbkeoaombhhdiaaDoor
