/-
  The document's value and Parse, byte by byte.
-/
import Derived.Test.YtbkeoaombhhdiaaDoorR4
namespace Go.Proofs.YtbkeoaombhhdiaaDoor
open Go.RowKit

/-- The first k bytes, their digits read. -/
def upF (d : ByteArray) (k : Nat) : Int := foldV (d.data.toList.take k)
theorem upF_i64 (d : ByteArray) (k : Nat) : -9223372036854775808 ≤ upF d k ∧ upF d k ≤ 9223372036854775807 := foldV_i64 _
theorem upF_yes {d : ByteArray} {k : Nat} {b : UInt8} (h : k < d.size) (hb : d[k] = b) (hd : isD b = true) : upF d (k + 1) = wrap64 (wrap64 (upF d k * 10) + ((b.toNat : Int) - 48)) := by
  unfold upF
  rw [take_snoc d k h, hb, foldV_snoc]
  unfold stepV
  rw [if_pos hd]
  rw [isD_int, Bool.and_eq_true, decide_eq_true_eq, decide_eq_true_eq] at hd
  unfold rnd wrap64
  omega
theorem upF_no {d : ByteArray} {k : Nat} {b : UInt8} (h : k < d.size) (hb : d[k] = b) (hd : isD b = false) : upF d (k + 1) = upF d k := by
  unfold upF
  rw [take_snoc d k h, hb, foldV_snoc]
  unfold stepV
  rw [if_neg (by rw [hd]; simp)]
theorem upF_end (d : ByteArray) : upF d d.size = foldV d.data.toList := by
  unfold upF
  rw [List.take_of_length_le (by simp)]
set_option maxRecDepth 100000 in
set_option maxHeartbeats 2000000 in
theorem rvalue (s : ByteArray) (w : World) (hs : s.size ≤ 1000000) : Calls Tryd.prog 35 #[.string s] w fun e w' => e = .returned (.int .i64 (valV s.data.toList)) ∧ w' = w := by
  go_enter Tryd.func35, Tryd.ntmps35
  go_wp2_with fail
  go_loop [3, 4] (fun n i => ∃ k : Nat, k ≤ s.size ∧ i = .int .i64 k ∧ n = .int .i64 (upF s k)) (fun _ i => s.size - (intOf i).toNat)
  case atStart => exact ⟨0, Nat.zero_le _, rfl, rfl⟩
  case round =>
    obtain ⟨k, hk, rfl, rfl⟩ := hrel
    obtain ⟨n, hn⟩ : ∃ n, upF s k = n := ⟨_, rfl⟩
    have hnb := upF_i64 s k
    rw [hn] at hnb ⊢
    by_cases hlt : (k : Int) < s.size
    · obtain ⟨b, hb⟩ : ∃ b, s[k] = b := ⟨_, rfl⟩
      have hb8 := b.toNat_lt
      cases hdg : isD b with
      | true =>
        have HN : Hid (upF s (k + 1) = wrap64 (wrap64 (n * 10) + ((b.toNat : Int) - 48))) := by rw [← hn]; exact upF_yes (by omega) hb hdg
        rw [isD_int, Bool.and_eq_true, decide_eq_true_eq, decide_eq_true_eq] at hdg
        obtain ⟨g1, g2⟩ := hdg
        clear hn
        go_wp2_with fail
        go_round
        case rel => exact ⟨k + 1, by omega, by go_num, by rw [HN.out]⟩
        case measure => simp [intOf]; omega
      | false =>
        have HN : Hid (upF s (k + 1) = n) := by rw [← hn]; exact upF_no (by omega) hb hdg
        have hdg' : ¬ isD b = true := by rw [hdg]; simp
        rw [isD_int, Bool.and_eq_true, decide_eq_true_eq, decide_eq_true_eq] at hdg'
        clear hdg hn
        by_cases g1 : (48 : Int) ≤ b.toNat
        · have g2 : ¬ (b.toNat : Int) ≤ 57 := by omega
          go_wp2_with fail
          go_round
          case rel => exact ⟨k + 1, by omega, by go_num, by rw [HN.out]⟩
          case measure => simp [intOf]; omega
        · go_wp2_with fail
          go_round
          case rel => exact ⟨k + 1, by omega, by go_num, by rw [HN.out]⟩
          case measure => simp [intOf]; omega
    · obtain rfl : k = s.size := by omega
      have HF : Hid (foldV s.data.toList = n) := by rw [← upF_end]; exact hn
      clear hn
      by_cases h0 : (0 : Int) < s.size
      · have hh := head_at (d := s) (by omega)
        obtain ⟨b, hb⟩ : ∃ b, s[0] = b := ⟨_, rfl⟩
        rw [hb] at hh
        cases h45 : ((b.toNat : Int) == 45) with
        | true =>
          have HV : Hid (valV s.data.toList = wrap64 (-n)) := by
            have hb45 : b = 45 := byte_int (n := 45) (by decide) (by have := beq_iff_eq.1 h45; omega)
            show valV _ = _
            unfold valV
            rw [if_pos (by rw [hh, hb45]), HF.out]
            unfold rnd wrap64
            omega
          clear hh
          go_wp2_with fail
          go_ret
          exact ⟨ret_int HV.out.symm, rfl⟩
        | false =>
          have HV : Hid (valV s.data.toList = n) := by
            show valV _ = _
            unfold valV
            rw [if_neg, HF.out]
            rw [hh]
            intro e
            have := Option.some.inj e
            subst this
            simp at h45
          clear hh
          go_wp2_with fail
          go_ret
          exact ⟨ret_int HV.out.symm, rfl⟩
      · have HV : Hid (valV s.data.toList = n) := by
          have h00 : s.data.toList = [] := by
            apply List.length_eq_zero_iff.1
            have : s.data.toList.length = s.size := by simp
            omega
          show valV _ = _
          unfold valV
          rw [if_neg (by rw [h00]; simp), HF.out]
        go_wp2_with fail
        go_ret
        exact ⟨ret_int HV.out.symm, rfl⟩

/-- What was gone through of a text. -/
def upP (s : ByteArray) (k : Nat) : St := (s.data.toList.take k).foldl stp ⟨[], [], [], []⟩
theorem upP_succ {s : ByteArray} {k : Nat} {b : UInt8} (h : k < s.size) (hb : s[k] = b) : upP s (k + 1) = stp (upP s k) b := by
  unfold upP
  rw [take_snoc s k h, hb, List.foldl_append]
  rfl
theorem upP_end (s : ByteArray) : upP s s.size = prs s.data.toList := by
  unfold upP prs
  rw [List.take_of_length_le (by simp)]
/-- In the midst of a text, byte by byte: the piece, the name, the names, the pieces. -/
structure Gon (s : ByteArray) (i : Nat) (ln nm : ByteArray) (N : List ByteArray) (P : List Bs) : Prop where
  at_ : upP s i = ⟨ln.data.toList, nm.data.toList, tx N, P⟩
  l : ln.size ≤ i
  n : nm.size ≤ i
  len : N.length = P.length
  few : N.length ≤ i
  sh : ∀ x ∈ N, x.size ≤ i
theorem Gon.start (s : ByteArray) : Gon s 0 ⟨#[]⟩ ⟨#[]⟩ [] [] := ⟨rfl, Nat.le_refl _, Nat.le_refl _, rfl, Nat.le_refl _, fun _ h => by cases h⟩
theorem Gon.blank {s : ByteArray} {i : Nat} {ln nm : ByteArray} {N : List ByteArray} {P : List Bs} (h : Gon s i ln nm N P) (hi : i < s.size) (hb : s[i] = 32) : Gon s (i + 1) ⟨#[]⟩ ln N P := by
  refine ⟨?_, Nat.zero_le _, Nat.le_succ_of_le h.l, h.len, Nat.le_succ_of_le h.few, fun x hx => Nat.le_succ_of_le (h.sh x hx)⟩
  rw [upP_succ hi hb, h.at_]
  rfl
theorem Gon.brk {s : ByteArray} {i : Nat} {ln nm : ByteArray} {N : List ByteArray} {P : List Bs} (h : Gon s i ln nm N P) (hi : i < s.size) (hb : s[i] = 10) : Gon s (i + 1) ⟨#[]⟩ ⟨#[]⟩ (N ++ [nm]) (P ++ [ln.data.toList]) := by
  refine ⟨?_, Nat.zero_le _, Nat.zero_le _, by simp [h.len], by simp [h.few], fun x hx => ?_⟩
  · rw [upP_succ hi hb, h.at_, tx_app]
    rfl
  · rcases List.mem_append.1 hx with k | k
    · exact Nat.le_succ_of_le (h.sh x k)
    · rw [List.mem_singleton.1 k]
      exact Nat.le_succ_of_le h.n
theorem Gon.more {s : ByteArray} {i : Nat} {ln nm : ByteArray} {N : List ByteArray} {P : List Bs} (h : Gon s i ln nm N P) (hi : i < s.size) (h1 : s[i] ≠ 32) (h2 : s[i] ≠ 10) : Gon s (i + 1) (ln ++ s.extract i (i + 1)) nm N P := by
  have e : (s.extract i (i + 1)).data.toList = [s[i]] := by
    rw [Lib.extract_data]
    have e1 : i + 1 - i = 1 := by omega
    rw [e1]
    have hlt : i < s.data.toList.length := by simpa using hi
    rw [List.drop_eq_getElem_cons hlt]
    rfl
  refine ⟨?_, ?_, Nat.le_succ_of_le h.n, h.len, Nat.le_succ_of_le h.few, fun x hx => Nat.le_succ_of_le (h.sh x hx)⟩
  · rw [upP_succ hi rfl, h.at_, dat_append, e]
    unfold stp
    rw [if_neg h1, if_neg h2]
  · rw [ByteArray.size_append]
    have e2 : ∀ x : ByteArray, x.size = x.data.toList.length := fun x => by cases x; simp [ByteArray.size]
    rw [e2 (s.extract i (i + 1)), e]
    have := h.l
    simp only [List.length_cons, List.length_nil]
    omega
theorem Gon.fin {s : ByteArray} {ln nm : ByteArray} {N : List ByteArray} {P : List Bs} (h : Gon s s.size ln nm N P) :
    par s.data.toList = if stOk (tx N) (P.map valV).length = true ∧ statT (tx N) (P.map valV) = s.data.toList then some (tx N, P.map valV) else none := by
  have e := h.at_
  rw [upP_end] at e
  unfold par
  rw [e]
theorem vals_i64 (P : List Bs) : I64s (P.map valV) := by
  intro x hx
  obtain ⟨p, -, rfl⟩ := List.mem_map.1 hx
  exact valV_i64 p
theorem OwnI.cast {w : World} {B : Nat} {v : Value} {V U : List Int} (h : OwnI w B v V) (e : V = U) : OwnI w B v U := e ▸ h
set_option maxRecDepth 100000 in
set_option maxHeartbeats 4000000 in
theorem rparse (s : ByteArray) (w : World) (hs : s.size ≤ 1000000) :
    Calls Tryd.prog 18 #[.string s] w fun e w' => Pars (par s.data.toList) e w' ∧ Below w.heap.size w w' := by
  have HS0 : Hid (s.size ≤ 1000000) := hs
  go_enter Tryd.func18, Tryd.ntmps18
  go_wp2_with fail
  go_loopw [5, 6, 7, 8, 9] (fun s5 s6 s7 s8 s9 wr => ∃ (i : Nat) (ln nm : ByteArray) (N : List ByteArray) (P : List Bs) (a5 a6 : Option Addr) (c5 c6 : Nat), i ≤ s.size ∧ s9 = .int .i64 i ∧ s8 = .string nm ∧ s7 = .string ln ∧ s5 = .slice a5 N.length c5 ∧ s6 = .slice a6 P.length c6 ∧ Hid (Gon s i ln nm N P) ∧ OwnS wr w.heap.size (.slice a5 N.length c5) N ∧ OwnI wr w.heap.size (.slice a6 P.length c6) (P.map valV) ∧ Below w.heap.size w wr)
    (fun _ _ _ _ s9 _ => s.size - (intOf s9).toNat)
  case atStart => exact ⟨0, ⟨#[]⟩, ⟨#[]⟩, [], [], _, _, _, _, Nat.zero_le _, rfl, rfl, rfl, rfl, rfl, Gon.start s, OwnS.nil _ _, OwnI.nil _ _, Below.refl _ _⟩
  case round =>
    obtain ⟨i, ln, nm, N, P, a5, a6, c5, c6, hi, rfl, rfl, rfl, rfl, rfl, HG, hos, hoi, hbw⟩ := hrel
    by_cases hlt : (i : Int) < s.size
    · obtain ⟨b, hb⟩ : ∃ b, s[i] = b := ⟨_, rfl⟩
      have hb8 := b.toNat_lt
      cases h32 : ((b.toNat : Int) == 32) with
      | true =>
        have HN : Hid (Gon s (i + 1) ⟨#[]⟩ ln N P) := HG.out.blank (by omega) (by rw [hb]; exact byte_int (n := 32) (by decide) (by have := beq_iff_eq.1 h32; omega))
        go_wp2_with fail
        go_roundw
        case rel => exact ⟨i + 1, _, _, N, P, a5, a6, c5, c6, by omega, by go_num, rfl, rfl, rfl, rfl, HN, hos, hoi, hbw⟩
        case measure => simp [intOf]; omega
      | false =>
        have n32 : s[i] ≠ 32 := by
          rw [hb]
          intro e
          subst e
          simp at h32
        cases h10 : ((b.toNat : Int) == 10) with
        | true =>
          have HN : Hid (Gon s (i + 1) ⟨#[]⟩ ⟨#[]⟩ (N ++ [nm]) (P ++ [ln.data.toList])) := HG.out.brk (by omega) (by rw [hb]; exact byte_int (n := 10) (by decide) (by have := beq_iff_eq.1 h10; omega))
          have hN5 : N.length ≤ 1000000 := by have := HG.out.few; omega
          have hP5 : (P.map valV).length ≤ 1000000 := by have := HG.out.len; rw [List.length_map]; omega
          have hlz : ln.size ≤ 1000000 := by have := HG.out.l; omega
          have hpl : (P.map valV).length = P.length := by simp
          have HVL : Hid (∀ w, Calls Tryd.prog 35 #[.string ln] w fun e w' => e = .returned (.int .i64 (valV ln.data.toList)) ∧ w' = w) := fun w => rvalue ln w hlz
          clear hpl
          go_wp2_with (first
            | (at_builtin; refine app_str w.heap.size N _ rfl _ _ rfl (.slice a5 N.length c5) rfl hos nm rfl hN5 hbw.size ?_; intro v5 w5 hos5 hb5 hk5)
            | (go_at_call 35; refine (HVL.out _).mono ?_; rintro e w9 ⟨rfl, hw9⟩; rw [hw9]; clear hw9 w9)
            | (at_builtin; refine app_int w.heap.size (P.map valV) _ rfl _ _ rfl (.slice a6 P.length c6) rfl (hk5 _ _ hoi) (valV ln.data.toList) rfl hP5 (Nat.le_trans hbw.size hb5.size) ?_; intro v6 w6 hoi6 hb6 hk6))
          have hos6 := hk6 _ _ hos5
          have hoi7 : OwnI w6 w.heap.size v6 ((P ++ [ln.data.toList]).map valV) := hoi6.cast (by simp)
          obtain ⟨a7, c7, rfl, -⟩ := hos6.form
          obtain ⟨a8, c8, e8, -⟩ := hoi7.form
          have e9 : v6 = .slice a8 (P ++ [ln.data.toList]).length c8 := by rw [e8]; simp
          rw [e9] at hoi7 ⊢
          go_roundw
          case rel => exact ⟨i + 1, _, _, N ++ [nm], P ++ [ln.data.toList], a7, a8, c7, c8, by omega, by go_num, rfl, rfl, rfl, rfl, HN, hos6, hoi7, (hbw.trans hb5).trans hb6⟩
          case measure => simp [intOf]; omega
        | false =>
          have n10 : s[i] ≠ 10 := by
            rw [hb]
            intro e
            subst e
            simp at h10
          have HN : Hid (Gon s (i + 1) (ln ++ s.extract i (i + 1)) nm N P) := HG.out.more (by omega) n32 n10
          have hlz : ln.size ≤ 1000000 := by have := HG.out.l; omega
          clear n32 n10
          go_wp2_with fail
          exact ⟨⟨i + 1, _, nm, N, P, a5, a6, c5, c6, by omega, by go_num, rfl, rfl, rfl, rfl, HN, hos, hoi, hbw⟩, by simp [intOf]; omega⟩
    · obtain rfl : i = s.size := by omega
      have HP := HG.out.fin
      have hsh : Short N := fun x hx => by
        have := HG.out.sh x hx
        unfold maxLen
        omega
      have hfew : N.length ≤ 9223372036854775807 := by have := HG.out.few; omega
      have HST : Hid (∀ w, Strs w a5 N → Ints w a6 (P.map valV) → Calls Tryd.prog 16 #[.slice a5 N.length c5, .slice a6 P.length c6] w fun e w' => e = stE (tx N) (P.map valV) ∧ Below w.heap.size w w') := fun w h1 h2 => by
        have := rstat a5 a6 c5 c6 N (P.map valV) w h1 hsh h2 (vals_i64 P) hfew
        rw [List.length_map] at this
        exact this
      obtain ⟨p, hp⟩ : ∃ p, par s.data.toList = p := ⟨_, rfl⟩
      have hoi2 : Ints wr a6 (P.map valV) := hoi.ints
      clear hsh hfew
      cases hok : stOk (tx N) (P.map valV).length with
      | false =>
        have HE : Hid (stE (tx N) (P.map valV) = .returned (.tuple #[.string ⟨#[]⟩, .int .i64 1])) := stE_no hok
        have HQ : Hid (par s.data.toList = none) := by
          show _ = _
          rw [HP, if_neg]
          rintro ⟨h, -⟩
          rw [hok] at h
          cases h
        clear HP hok hp p
        go_wp2_with (go_at_call 16; refine (HST.out _ hos.strs hoi2).mono ?_; rw [HE.out]; rintro e w1 ⟨rfl, hb1⟩)
        go_ret3
        rw [HQ.out]
        exact ⟨rfl, hbw.trans (hb1.mono hbw.size)⟩
      | true =>
        have HE : Hid (stE (tx N) (P.map valV) = .returned (.tuple #[.string (str (statT (tx N) (P.map valV))), .int .i64 0])) := stE_yes hok
        obtain ⟨st, hst⟩ : ∃ st, statT (tx N) (P.map valV) = st := ⟨_, rfl⟩
        rw [hst] at HE HP
        by_cases he : st = s.data.toList
        · have HQ : Hid (par s.data.toList = some (tx N, P.map valV)) := by
            show _ = _
            rw [HP, if_pos ⟨hok, he⟩]
          have ht : (st == s.toList) = true := by rw [ByteArray.toList_eq]; simpa using he
          clear HP hok hp p he hst
          go_wp2_with (go_at_call 16; refine (HST.out _ hos.strs hoi2).mono ?_; rw [HE.out]; rintro e w1 ⟨rfl, hb1⟩)
          go_ret3
          rw [HQ.out]
          exact ⟨⟨N, a5, a6, c5, c6, rfl, by rw [List.length_map]; rfl, hos.strs.below hb1, hoi2.below hb1⟩, hbw.trans (hb1.mono hbw.size)⟩
        · have HQ : Hid (par s.data.toList = none) := by
            show _ = _
            rw [HP, if_neg]
            rintro ⟨-, h⟩
            exact he h
          have ht : (st == s.toList) = false := by rw [ByteArray.toList_eq]; simpa using he
          clear HP hok hp p he hst
          go_wp2_with (go_at_call 16; refine (HST.out _ hos.strs hoi2).mono ?_; rw [HE.out]; rintro e w1 ⟨rfl, hb1⟩)
          go_ret3
          rw [HQ.out]
          exact ⟨rfl, hbw.trans (hb1.mono hbw.size)⟩
end Go.Proofs.YtbkeoaombhhdiaaDoor
