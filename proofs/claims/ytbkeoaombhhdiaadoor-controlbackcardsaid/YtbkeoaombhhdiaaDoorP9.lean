/-
  The program's Parse, line by line.
-/
import Derived.Test.YtbkeoaombhhdiaaDoorP8
namespace Go.Proofs.YtbkeoaombhhdiaaDoor
open Go.RowKit

/-- What is told of a text: names and values in memory, or none. -/
def Pars (o : Option (List Bs × List Int)) (e : Ending) (w : World) : Prop :=
  match o with
  | Option.none => e = .returned (.tuple #[.slice Option.none 0 0, .slice Option.none 0 0, .int .i64 20])
  | some (n, v) => ∃ (N : List ByteArray) (a a2 : Option Addr) (c c2 : Nat), tx N = n ∧ e = .returned (.tuple #[.slice a N.length c, .slice a2 v.length c2, .int .i64 0]) ∧ Strs w a N ∧ Ints w a2 v

/-- In the midst of a text: what was read of it, and what is left. -/
structure Mid (S : Bs) (N : List ByteArray) (V : List Int) (t : Bs) : Prop where
  all : statT (tx N) V ++ t = S
  len : N.length = V.length
  few : N.length ≤ 101
  pl : ∀ x ∈ tx N, plain x
  vs : I64s V
  sm : t.length ≤ S.length
  nm : ∀ x ∈ tx N, x.length ≤ S.length
theorem Mid.start (S : Bs) : Mid S [] [] S := ⟨rfl, rfl, Nat.zero_le _, fun _ h => (by cases h), fun _ h => (by cases h), Nat.le_refl _, fun _ h => (by cases h)⟩
/-- The line, the name, the digits. -/
def lnT (t : Bs) : Bs := (cut1 10 t).1
def beT (t : Bs) : Bs := (cut1 10 t).2.1
def enT (t : Bs) : Bool := (cut1 10 t).2.2
def nmT (t : Bs) : Bs := (cut1 32 (lnT t)).1
def dgT (t : Bs) : Bs := (cut1 32 (lnT t)).2.1
theorem dgI_ne (n : Int) : dgI n ≠ [] := by
  unfold dgI
  split
  · simp
  · exact dg_ne _
theorem tx_app (N : List ByteArray) (x : ByteArray) : tx (N ++ [x]) = tx N ++ [x.data.toList] := by simp [tx]
theorem Mid.next {S : Bs} {N : List ByteArray} {V : List Int} {t : Bs} (h : Mid S N V t) (hf : N.length ≤ 100) (he : enT t = true) (ho : numOk (dgT t) = true) : Mid S (N ++ [str (nmT t)]) (V ++ [numN (dgT t)]) (beT t) := by
  have e1 := numOk_eq ho
  obtain ⟨h1, h2⟩ := cut1_yes (c := 10) (T := t) he
  have hfound : (cut1 32 (lnT t)).2.2 = true := by
    cases hh : (cut1 32 (lnT t)).2.2 with
    | true => rfl
    | false =>
      have := (cut1_no hh).2.1
      have e2 : dgT t = [] := this
      rw [e2] at e1
      exact absurd e1 (dgI_ne _)
  obtain ⟨h3, h4⟩ := cut1_yes (c := 32) (T := lnT t) hfound
  have h3' : lnT t = nmT t ++ 32 :: dgT t := h3
  have h2' : (10 : UInt8) ∉ lnT t := h2
  have h1' : t = lnT t ++ 10 :: beT t := h1
  have hp : plain (nmT t) := ⟨h4, fun k => h2' (by rw [h3']; simp [k])⟩
  have hline : t = line (nmT t) (numN (dgT t)) ++ beT t := by
    unfold line
    rw [e1]
    have : nmT t ++ 32 :: (dgT t ++ [10]) ++ beT t = (nmT t ++ 32 :: dgT t) ++ 10 :: beT t := by simp
    rw [this, ← h3', ← h1']
  have hlt := congrArg List.length hline
  simp only [List.length_append] at hlt
  have hnl : (nmT t).length ≤ (line (nmT t) (numN (dgT t))).length := by unfold line; simp
  have hsm := h.sm
  refine ⟨?_, by simp [h.len], by simp; omega, ?_, ?_, by omega, ?_⟩
  · rw [tx_app, stat_snoc (tx N) V (by rw [tx_length]; exact h.len), List.append_assoc]
    show statT (tx N) V ++ (line (nmT t) _ ++ beT t) = S
    rw [← hline]
    exact h.all
  · intro x hx
    rw [tx_app] at hx
    rcases List.mem_append.1 hx with k | k
    · exact h.pl x k
    · rw [List.mem_singleton.1 k]
      exact hp
  · intro x hx
    rcases List.mem_append.1 hx with k | k
    · exact h.vs x k
    · rw [List.mem_singleton.1 k]
      exact numN_i64 _
  · intro x hx
    rw [tx_app] at hx
    rcases List.mem_append.1 hx with k | k
    · exact h.nm x k
    · rw [List.mem_singleton.1 k]
      show (nmT t).length ≤ _
      omega
theorem Mid.pre {S : Bs} {N : List ByteArray} {V : List Int} {t : Bs} (h : Mid S N V t) {n : List Bs} {v : List Int} (hp : par S = some (n, v)) :
    ∃ n' v', n = tx N ++ n' ∧ v = V ++ v' ∧ n'.length = v'.length ∧ t = statT n' v' ∧ mayS n = true ∧ I64s v := by
  obtain ⟨h1, h2, h3⟩ := (par_iff S n v).1 hp
  rw [stOk_may, Bool.and_eq_true, decide_eq_true_eq] at h1
  obtain ⟨n', v', e1, e2, e3, e4⟩ := stat_prefix (tx N) V n v t (by rw [tx_length]; exact h.len) h1.1 h.pl (mayS_plain h1.2) (by rw [h.all, h2])
  exact ⟨n', v', e1, e2, e3, e4, h1.2, h3⟩
theorem Mid.bad {S : Bs} {N : List ByteArray} {V : List Int} {t : Bs} (h : Mid S N V t) (ht : t ≠ []) (hb : enT t = false ∨ numOk (dgT t) = false) : par S = Option.none := by
  cases hp : par S with
  | none => rfl
  | some r =>
    exfalso
    obtain ⟨n, v⟩ := r
    obtain ⟨n', v', e1, e2, e3, e4, e5, e6⟩ := h.pre hp
    cases n' with
    | nil =>
      have : v' = [] := List.length_eq_zero_iff.1 e3.symm
      subst this
      exact ht e4
    | cons b n' =>
      cases v' with
      | nil => cases e3
      | cons y v' =>
        have hpl : plain b := mayS_plain e5 b (by rw [e1]; simp)
        have hy : i64 y := e6 y (by rw [e2]; simp)
        have et : t = (b ++ 32 :: dgI y) ++ 10 :: statT n' v' := by
          rw [e4]
          show line b y ++ statT n' v' = _
          unfold line
          simp
        have hc : cut1 10 t = (b ++ 32 :: dgI y, statT n' v', true) := by
          rw [et]
          refine cut1_of ?_
          intro k
          rcases List.mem_append.1 k with k | k
          · exact hpl.2 k
          · rcases List.mem_cons.1 k with k | k
            · cases k
            · exact (dgI_plain y).2 k
        have hl : lnT t = b ++ 32 :: dgI y := by unfold lnT; rw [hc]
        have hd : dgT t = dgI y := by
          unfold dgT
          rw [hl, cut1_of hpl.1]
        rcases hb with hb | hb
        · unfold enT at hb
          rw [hc] at hb
          cases hb
        · rw [hd, numOk_dgI hy] at hb
          cases hb
theorem Mid.out {S : Bs} {N : List ByteArray} {V : List Int} {t : Bs} (h : Mid S N V t) (ho : t = [] ∨ 100 < N.length) :
    (mayS (tx N) = true → par S = some (tx N, V)) ∧ (mayS (tx N) = false → par S = Option.none) := by
  rcases ho with rfl | ho
  · refine ⟨fun hm => ?_, fun hm => ?_⟩
    · refine (par_iff S _ _).2 ⟨?_, by have := h.all; simpa using this, h.vs⟩
      rw [stOk_may, hm, tx_length]
      simpa using h.len
    · cases hp : par S with
      | none => rfl
      | some r =>
        exfalso
        obtain ⟨n, v⟩ := r
        obtain ⟨n', v', e1, e2, e3, e4, e5, e6⟩ := h.pre hp
        have hn : n' = [] := by
          cases n' with
          | nil => rfl
          | cons b n' =>
            cases v' with
            | nil => cases e3
            | cons y v' =>
              have := congrArg List.length e4
              simp [statT, line] at this
        subst hn
        rw [List.append_nil] at e1
        rw [← e1, e5] at hm
        cases hm
  · have hm : mayS (tx N) = false := may_long ho
    refine ⟨fun k => (by rw [hm] at k; cases k), fun _ => ?_⟩
    cases hp : par S with
    | none => rfl
    | some r =>
      exfalso
      obtain ⟨n, v⟩ := r
      obtain ⟨n', v', e1, e2, e3, e4, e5, e6⟩ := h.pre hp
      simp only [mayS, Bool.and_eq_true, decide_eq_true_eq] at e5
      have := e5.1
      rw [e1, List.length_append, tx_length] at this
      omega

theorem OwnS.strs {w : World} {B : Nat} {a : Option Addr} {n c : Nat} {L : List ByteArray} (h : OwnS w B (.slice a n c) L) : Strs w a L := by
  obtain ⟨a', c', e, hs⟩ := h.form
  injection e with e1 _ _
  rw [e1]
  exact hs
theorem OwnI.ints {w : World} {B : Nat} {a : Option Addr} {n c : Nat} {V : List Int} (h : OwnI w B (.slice a n c) V) : Ints w a V := by
  obtain ⟨a', c', e, hs⟩ := h.form
  injection e with e1 _ _
  rw [e1]
  exact hs
theorem Mid.short {S : Bs} {N : List ByteArray} {V : List Int} {t : Bs} (h : Mid S N V t) (hS : S.length ≤ 1000000) : Short N := by
  intro x hx
  have := h.nm _ (List.mem_map.2 ⟨x, hx, rfl⟩)
  have e : x.data.toList.length = x.size := by simp
  rw [e] at this
  unfold maxLen
  omega
set_option maxRecDepth 100000 in
set_option maxHeartbeats 4000000 in
theorem pparse (s : ByteArray) (w : World) (hs : s.size ≤ 1000000) (ht : Tabs w) :
    Calls Tryd.prog 17 #[.string s] w fun e w' => Pars (par s.data.toList) e w' ∧ Below w.heap.size w w' := by
  have HT : Hid (Tabs w) := ht
  obtain ⟨S, hS⟩ : ∃ S, s.data.toList = S := ⟨_, rfl⟩
  have HS : Hid (S.length ≤ 1000000) := by
    show S.length ≤ _
    rw [← hS]
    simpa using hs
  have HS0 : Hid (s.data.toList = S) := hS
  rw [hS]
  clear ht hS
  go_enter Tryd.func17, Tryd.ntmps17
  go_wp2_with fail
  go_loopw [0, 5, 6] (fun s0 s5 s6 wr => ∃ (t : ByteArray) (N : List ByteArray) (V : List Int) (a5 a6 : Option Addr) (c5 c6 : Nat), s0 = .string t ∧ s5 = .slice a5 N.length c5 ∧ s6 = .slice a6 V.length c6 ∧ Hid (Mid S N V t.data.toList) ∧ OwnS wr w.heap.size (.slice a5 N.length c5) N ∧ OwnI wr w.heap.size (.slice a6 V.length c6) V ∧ Below w.heap.size w wr)
    (fun s0 _ _ _ => match s0 with | .string t => t.size | _ => 0)
  case atStart => exact ⟨s, [], [], _, _, _, _, rfl, rfl, rfl, (by rw [HS0.out]; exact Mid.start S), OwnS.nil _ _, OwnI.nil _ _, Below.refl _ _⟩
  case round =>
    obtain ⟨t, N, V, a5, a6, c5, c6, rfl, rfl, rfl, HMd, hos, hoi, hbw⟩ := hrel
    have HM : Hid (∀ w, Strs w a5 N → Calls Tryd.prog 29 #[.slice a5 N.length c5] w fun e w' => e = .returned (.bool (mayS (tx N))) ∧ Below w.heap.size w w') := fun w h => pmay a5 c5 N w h (HMd.out.short HS.out)
    by_cases hgo : t.data.toList ≠ [] ∧ N.length ≤ 100
    · obtain ⟨hne, hfew⟩ := hgo
      have h1 := emp_no hne
      have htz : t.size ≤ 1000000 := by
        have h2 := HMd.out.sm
        have h3 := HS.out
        have e : t.data.toList.length = t.size := by simp
        omega
      have hml : ∀ {n : Nat}, n ≤ 1000000 → n ≤ maxLen := fun h => by unfold maxLen; omega
      obtain ⟨ln, hln⟩ : ∃ ln, str (lnT t.data.toList) = ln := ⟨_, rfl⟩
      obtain ⟨be, hbe⟩ : ∃ be, str (beT t.data.toList) = be := ⟨_, rfl⟩
      obtain ⟨nm, hnm⟩ : ∃ nm, str (nmT t.data.toList) = nm := ⟨_, rfl⟩
      obtain ⟨ds, hds⟩ : ∃ ds, str (dgT t.data.toList) = ds := ⟨_, rfl⟩
      obtain ⟨fn, hfn⟩ : ∃ fn, (cut1 32 (lnT t.data.toList)).2.2 = fn := ⟨_, rfl⟩
      obtain ⟨n, hn⟩ : ∃ n, numN (dgT t.data.toList) = n := ⟨_, rfl⟩
      have l1 := cut1_len 10 t.data.toList
      have l2 := cut1_len 32 (lnT t.data.toList)
      have hlz : ln.size ≤ 1000000 := by
        rw [← hln]
        have e : t.data.toList.length = t.size := by simp
        exact Nat.le_trans l1.1 (by omega)
      have hnz : nm.size ≤ 1000000 := by
        rw [← hnm]
        have h2 : (str (lnT t.data.toList)).size ≤ 1000000 := by rw [hln]; exact hlz
        exact Nat.le_trans l2.1 h2
      have hdz : ds.size ≤ 1000000 := by
        rw [← hds]
        have h2 : (str (lnT t.data.toList)).size ≤ 1000000 := by rw [hln]; exact hlz
        exact Nat.le_trans l2.2.1 h2
      have HLT : Hid (be.size < t.size) := by
        show be.size < t.size
        have e : t.data.toList.length = t.size := by simp
        rw [← hbe, ← e]
        exact l1.2.2 hne
      have HC1 : Hid (∀ w, Calls Tryd.prog 32 #[.string t, .string ⟨#[10]⟩] w fun e w' => e = .returned (.tuple #[.string ln, .string be, .bool (enT t.data.toList)]) ∧ Below w.heap.size w w') := fun w => by
        rw [← hln, ← hbe]
        exact pcut 10 t w (hml htz)
      have HC2 : Hid (∀ w, Calls Tryd.prog 32 #[.string ln, .string ⟨#[32]⟩] w fun e w' => e = .returned (.tuple #[.string nm, .string ds, .bool fn]) ∧ Below w.heap.size w w') := fun w => by
        rw [← hnm, ← hds, ← hfn, ← hln]
        exact pcut 32 _ w (hml (by rw [hln]; exact hlz))
      have HC3 : Hid (∀ w, Tabs w → Calls Tryd.prog 33 #[.string ds] w fun e w' => e = .returned (.tuple #[.int .i64 n, .bool (numOk (dgT t.data.toList))]) ∧ Below w.heap.size w w') := fun w h => by
        rw [← hn, ← hds]
        exact pnumber _ w (hml (by rw [hds]; exact hdz)) h
      have HB : Hid (enT t.data.toList = false ∨ numOk (dgT t.data.toList) = false → par S = Option.none) := fun h => HMd.out.bad hne h
      have HX : Hid (enT t.data.toList = true → numOk (dgT t.data.toList) = true → Mid S (N ++ [nm]) (V ++ [n]) be.data.toList) := fun h k => by
        have := HMd.out.next hfew h k
        rw [hnm, hn] at this
        rw [← hbe]
        exact this
      have HV : Hid (V.length ≤ 1000000) := by
        have := HMd.out.len
        show _ ≤ _
        omega
      clear l1 l2 hln hbe hnm hds hfn hn hne hml
      cases he : enT t.data.toList with
      | false =>
        go_wp2_with fail
        refine (HC1.out _).mono ?_
        rintro e w1 ⟨rfl, hb1⟩
        rw [he]
        go_wp2_with fail
        refine (HC2.out _).mono ?_
        rintro e w2 ⟨rfl, hb2⟩
        go_wp2_with fail
        refine (HC3.out _ (((HT.out.below hbw).below hb1).below hb2)).mono ?_
        rintro e w3 ⟨rfl, hb3⟩
        go_wp2_with fail
        go_ret3
        rw [HB.out (Or.inl he)]
        exact ⟨rfl, ((hbw.trans (hb1.mono hbw.size)).trans (hb2.mono (Nat.le_trans hbw.size hb1.size))).trans (hb3.mono (Nat.le_trans (Nat.le_trans hbw.size hb1.size) hb2.size))⟩
      | true =>
        cases ho : numOk (dgT t.data.toList) with
        | false =>
          go_wp2_with fail
          refine (HC1.out _).mono ?_
          rintro e w1 ⟨rfl, hb1⟩
          rw [he]
          go_wp2_with fail
          refine (HC2.out _).mono ?_
          rintro e w2 ⟨rfl, hb2⟩
          go_wp2_with fail
          refine (HC3.out _ (((HT.out.below hbw).below hb1).below hb2)).mono ?_
          rintro e w3 ⟨rfl, hb3⟩
          rw [ho]
          go_wp2_with fail
          go_ret3
          rw [HB.out (Or.inr ho)]
          exact ⟨rfl, ((hbw.trans (hb1.mono hbw.size)).trans (hb2.mono (Nat.le_trans hbw.size hb1.size))).trans (hb3.mono (Nat.le_trans (Nat.le_trans hbw.size hb1.size) hb2.size))⟩
        | true =>
          have HN : Hid (Mid S (N ++ [nm]) (V ++ [n]) be.data.toList) := HX.out he ho
          go_wp2_with fail
          refine (HC1.out _).mono ?_
          rintro e w1 ⟨rfl, hb1⟩
          rw [he]
          go_wp2_with fail
          refine (HC2.out _).mono ?_
          rintro e w2 ⟨rfl, hb2⟩
          go_wp2_with fail
          refine (HC3.out _ (((HT.out.below hbw).below hb1).below hb2)).mono ?_
          rintro e w3 ⟨rfl, hb3⟩
          rw [ho]
          go_wp2_with fail
          refine (pclone _ _ (by omega)).mono ?_
          rintro e w4 ⟨rfl, hb4⟩
          have hbw4 : Below w.heap.size w w4 := (((hbw.trans (hb1.mono hbw.size)).trans (hb2.mono (Nat.le_trans hbw.size hb1.size))).trans (hb3.mono (Nat.le_trans (Nat.le_trans hbw.size hb1.size) hb2.size))).trans (hb4.mono (Nat.le_trans (Nat.le_trans (Nat.le_trans hbw.size hb1.size) hb2.size) hb3.size))
          have hos4 : OwnS w4 w.heap.size (.slice a5 N.length c5) N := (((hos.below hb1).below hb2).below hb3).below hb4
          have hoi4 : OwnI w4 w.heap.size (.slice a6 V.length c6) V := (((hoi.below hb1).below hb2).below hb3).below hb4
          clear hos hoi hbw hb1 hb2 hb3 hb4
          go_wp2_with (first
            | (at_builtin; refine app_str w.heap.size N _ rfl _ _ rfl (.slice a5 N.length c5) rfl hos4 nm rfl (by omega) hbw4.size ?_; intro v5 w5 hos5 hb5 hk5)
            | (at_builtin; refine app_int w.heap.size V _ rfl _ _ rfl (.slice a6 V.length c6) rfl (hk5 _ _ hoi4) n rfl HV.out (Nat.le_trans hbw4.size hb5.size) ?_; intro v6 w6 hoi6 hb6 hk6))
          have hos6 := hk6 _ _ hos5
          obtain ⟨a7, c7, rfl, -⟩ := hos6.form
          obtain ⟨a8, c8, rfl, -⟩ := hoi6.form
          go_roundw
          case rel => exact ⟨be, N ++ [nm], V ++ [n], a7, a8, c7, c8, rfl, rfl, rfl, HN, hos6, hoi6, (hbw4.trans hb5).trans hb6⟩
          case measure => exact HLT.out
    · have HO : Hid ((mayS (tx N) = true → par S = some (tx N, V)) ∧ (mayS (tx N) = false → par S = Option.none)) := HMd.out.out (by
        by_cases h : t.data.toList = []
        · exact Or.inl h
        · exact Or.inr (by rcases Nat.lt_or_ge 100 N.length with k | k
                           · exact k
                           · exact absurd ⟨h, k⟩ hgo))
      have hw : (t.toList.isEmpty = true) ∨ (t.toList.isEmpty = false ∧ ¬ (N.length : Int) ≤ 100) := by
        by_cases h : t.data.toList = []
        · exact Or.inl (emp_yes h)
        · refine Or.inr ⟨emp_no h, fun k => hgo ⟨h, by omega⟩⟩
      clear hgo
      cases hm : mayS (tx N) with
      | true =>
        rcases hw with h1 | ⟨h1, h2⟩
        all_goals
          go_wp2_with (go_at_call 29; refine (HM.out _ hos.strs).mono ?_; rintro e w1 ⟨rfl, hb1⟩; rw [hm])
          go_ret3
          rw [HO.out.1 hm]
          exact ⟨⟨N, a5, a6, c5, c6, rfl, rfl, hos.strs.below hb1, hoi.ints.below hb1⟩, hbw.trans (hb1.mono hbw.size)⟩
      | false =>
        rcases hw with h1 | ⟨h1, h2⟩
        all_goals
          go_wp2_with (go_at_call 29; refine (HM.out _ hos.strs).mono ?_; rintro e w1 ⟨rfl, hb1⟩; rw [hm])
          go_ret3
          rw [HO.out.2 hm]
          exact ⟨rfl, hbw.trans (hb1.mono hbw.size)⟩
end Go.Proofs.YtbkeoaombhhdiaaDoor
