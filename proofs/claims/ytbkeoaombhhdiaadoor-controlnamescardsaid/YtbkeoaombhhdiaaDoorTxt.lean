/-
  What each call of control answers, as functions of lists of bytes: numbers read back, limits, files, stats. No program is named here.
-/
import Derived.Test.YtbkeoaombhhdiaaDoorMath
import Derived.Lib.ItoaNum
namespace Go.Proofs.YtbkeoaombhhdiaaDoor

theorem dec_dg (n : Nat) : Lib.decDigits n = dg n := by
  refine dg_ind (P := fun n => Lib.decDigits n = dg n) (fun n h => ?_) (fun n h ih => ?_) n
  · rw [dg_small h, Lib.decDigits, dif_pos h]
    unfold dgt
    rw [Nat.mod_eq_of_lt h]
  · rw [dg_step h, Lib.decDigits, dif_neg h, ih]
    unfold dgt
    rw [Nat.mod_mod]
theorem itoa_dgI (n : Int) : Lib.itoa n = dgI n := by
  unfold Lib.itoa dgI
  split
  · rw [dec_dg]
    congr 2
    omega
  · rw [dec_dg]

/-! ### what digits come to, going round -/
/-- An int of 64 bits. -/
def i64 (n : Int) : Prop := -9223372036854775808 ≤ n ∧ n ≤ 9223372036854775807
/-- Round at 64 bits. -/
def rnd (x : Int) : Int := (x + 9223372036854775808) % 18446744073709551616 - 9223372036854775808
theorem rnd_i64 (x : Int) : i64 (rnd x) := by unfold rnd i64; omega
theorem rnd_id {x : Int} (h : i64 x) : rnd x = x := by unfold rnd i64 at *; omega
def step (n : Int) (c : UInt8) : Int := rnd (n * 10 + c.toNat - 48)
def foldD (T : Bs) : Int := T.foldl step 0
theorem foldD_snoc (T : Bs) (c : UInt8) : foldD (T ++ [c]) = step (foldD T) c := by simp [foldD]
theorem foldD_i64 (T : Bs) : i64 (foldD T) := by
  by_cases h : T = []
  · subst h; exact ⟨by decide, by decide⟩
  · rw [← List.dropLast_concat_getLast h, foldD_snoc]
    exact rnd_i64 _
theorem foldD_dg (n : Nat) : foldD (dg n) = rnd n := by
  refine dg_ind (P := fun n => foldD (dg n) = rnd n) (fun n h => ?_) (fun n h ih => ?_) n
  · rw [dg_small h]
    show step 0 (dgt n) = _
    unfold step
    rw [dgt_nat]
    congr 1
    omega
  · rw [dg_step h, foldD_snoc, ih]
    unfold step
    rw [dgt_nat]
    unfold rnd
    omega
/-- What a text is behind a '-'. -/
def cutM (T : Bs) : Bs := if T.head? = some 45 then T.drop 1 else T
/-- What number makes of a text. -/
def numN (T : Bs) : Int := if T.head? = some 45 then rnd (-(foldD (cutM T))) else foldD (cutM T)
theorem numN_i64 (T : Bs) : i64 (numN T) := by
  unfold numN
  split
  · exact rnd_i64 _
  · exact foldD_i64 _
theorem dg_head45 (n : Nat) : (dg n).head? ≠ some 45 := by
  intro h
  cases hd : dg n with
  | nil => rw [hd] at h; cases h
  | cons a s =>
    rw [hd] at h
    have : a = 45 := Option.some.inj h
    subst this
    exact dg_no_minus n (by rw [hd]; simp)
theorem numN_dgI {m : Int} (h : i64 m) : numN (dgI m) = m := by
  unfold dgI
  split
  · rename_i hm
    have e : numN (45 :: dg (-m).toNat) = rnd (-(foldD (dg (-m).toNat))) := by
      unfold numN cutM
      simp
    rw [e, foldD_dg]
    unfold i64 at h
    unfold rnd
    omega
  · rename_i hm
    have e : numN (dg m.toNat) = foldD (dg m.toNat) := by
      unfold numN cutM
      rw [if_neg (dg_head45 _), if_neg (dg_head45 _)]
    rw [e, foldD_dg]
    unfold i64 at h
    unfold rnd
    omega
/-- Is a text a number's? -/
def numOk (T : Bs) : Bool := decide (dgI (numN T) = T)
theorem numOk_dgI {m : Int} (h : i64 m) : numOk (dgI m) = true := by
  unfold numOk
  rw [numN_dgI h]
  simp
theorem numOk_eq {T : Bs} (h : numOk T = true) : dgI (numN T) = T := by simpa [numOk] using h

/-! ### limits -/
def isDgB (T : Bs) : Bool := decide (T ≠ []) && (T.all isD && (decide (T.head? ≠ some 48) || decide (T.length = 1)))
theorem isDgB_iff (T : Bs) : isDgB T = true ↔ isDg T := by
  unfold isDgB isDg
  simp only [Bool.and_eq_true, Bool.or_eq_true, decide_eq_true_eq, List.all_eq_true]
  constructor
  · rintro ⟨h1, h2, h3⟩
    exact ⟨h1, h2, fun h => h3.resolve_left (fun k => k h)⟩
  · rintro ⟨h1, h2, h3⟩
    refine ⟨h1, h2, ?_⟩
    by_cases h : T.head? = some 48
    · exact Or.inr (h3 h)
    · exact Or.inl h
/-- Is a text a number's from 0 to most? -/
def upOk (most : Int) (T : Bs) : Bool := numOk T && (decide (0 ≤ numN T) && decide (numN T ≤ most))
theorem upOk_iff {most : Nat} (hm : most ≤ 9223372036854775807) (T : Bs) : upOk most T = true ↔ isDgB T = true ∧ val T ≤ most := by
  unfold upOk
  rw [isDgB_iff]
  simp only [Bool.and_eq_true, decide_eq_true_eq]
  constructor
  · rintro ⟨h1, h2, h3⟩
    have e := numOk_eq h1
    unfold dgI at e
    rw [if_neg (by omega)] at e
    rw [← e]
    refine ⟨dg_isDg _, ?_⟩
    rw [val_dg]
    omega
  · rintro ⟨h1, h2⟩
    have e := dg_val h1
    have e2 : dgI (val T) = T := by
      unfold dgI
      rw [if_neg (by omega)]
      simpa using e
    have h8 : i64 (val T) := ⟨by omega, by omega⟩
    have e3 := numN_dgI h8
    rw [e2] at e3
    refine ⟨?_, by omega, by omega⟩
    unfold numOk
    rw [e3, e2]
    simp
theorem upOk_val {most : Nat} (hm : most ≤ 9223372036854775807) {T : Bs} (h : upOk most T = true) : numN T = val T := by
  obtain ⟨h1, h2⟩ := (upOk_iff hm T).1 h
  have e := dg_val ((isDgB_iff T).1 h1)
  have e2 : dgI (val T) = T := by
    unfold dgI
    rw [if_neg (by omega)]
    simpa using e
  have e3 := numN_dgI (m := (val T : Int)) ⟨by omega, by omega⟩
  rw [e2] at e3
  exact e3
def tMax : Bs := [109, 97, 120]
def lim1 (most : Nat) (T : Bs) : Option Nat := if isDgB T = true ∧ val T ≤ most then some (val T) else none
/-- A limit's text, as a number. -/
def limN (T : Bs) : Option Nat :=
  if T = tMax then some 1099511627776
  else if T.getLast? = some 75 then (lim1 1073741824 T.dropLast).map (· * 1024)
  else lim1 1099511627776 T
theorem lim1_up {most : Nat} (hm : most ≤ 9223372036854775807) (T : Bs) : lim1 most T = if upOk most T = true then some (numN T).toNat else none := by
  unfold lim1
  by_cases h : upOk most T = true
  · rw [if_pos h, if_pos ((upOk_iff hm T).1 h), upOk_val hm h]
    rfl
  · rw [if_neg h, if_neg (fun k => h ((upOk_iff hm T).2 k))]
/-- A limit's text as a number, -1 where it is none. -/
def limI (T : Bs) : Int := match limN T with | some n => (n : Int) | none => -1
theorem lim1_le {most n : Nat} {T : Bs} (h : lim1 most T = some n) : n ≤ most := by
  unfold lim1 at h
  split at h
  · rename_i k
    have := Option.some.inj h
    omega
  · cases h
theorem limN_le {n : Nat} {T : Bs} (h : limN T = some n) : n ≤ 1099511627776 := by
  unfold limN at h
  split at h
  · have := Option.some.inj h; omega
  · split at h
    · cases hl : lim1 1073741824 T.dropLast with
      | none => rw [hl] at h; cases h
      | some k =>
        rw [hl] at h
        have e := Option.some.inj h
        have := lim1_le hl
        simp at e
        omega
    · exact lim1_le h

/-! ### the files -/
def tMin : Bs := [109, 101, 109, 111, 114, 121, 46, 109, 105, 110]
def tLow : Bs := [109, 101, 109, 111, 114, 121, 46, 108, 111, 119]
def tMaxF : Bs := [109, 101, 109, 111, 114, 121, 46, 109, 97, 120]
def tSwap : Bs := [115, 119, 97, 112, 46, 109, 97, 120]
def tOom : Bs := [109, 101, 109, 111, 114, 121, 46, 111, 111, 109, 46, 103, 114, 111, 117, 112]
def tFiles : List Bs := [tMin, tLow, tMaxF, tSwap, tOom]
def fileI (T : Bs) : Int := if T = tMin then 0 else if T = tLow then 1 else if T = tMaxF then 2 else if T = tSwap then 3 else if T = tOom then 4 else -1
/-- A line's end behind taken off. -/
def nl (T : Bs) : Bs := if T.getLast? = some 10 then T.dropLast else T
/-- What Read answers. -/
def rd (name T : Bs) : Int × Int × Int :=
  if fileI name = -1 then (-1, 0, 2)
  else if fileI name = 4 then (if nl T = [48] then (4, 0, 0) else if nl T = [49] then (4, 1, 0) else (-1, 0, 20))
  else match limN (nl T) with | some n => (fileI name, (n : Int), 0) | none => (-1, 0, 20)
/-- What Show answers. -/
def shw (n : Int) : Bs := if n = 1099511627776 then tMax else dgI n

/-! ### stats -/
def stOk (names : List Bs) (nv : Nat) : Bool := decide (names.length = nv) && (decide (names.length ≤ 100) && (names.all isW && decide names.Nodup))
/-- What names may stand in one stat. -/
def mayS (names : List Bs) : Bool := decide (names.length ≤ 100) && (names.all isW && decide names.Nodup)
theorem stOk_may (names : List Bs) (nv : Nat) : stOk names nv = (decide (names.length = nv) && mayS names) := rfl
theorem mayS_plain {names : List Bs} (h : mayS names = true) : ∀ x ∈ names, plain x := by
  simp only [mayS, Bool.and_eq_true] at h
  exact fun x hx => isW_plain (List.all_eq_true.1 h.2.1 x hx)

/-- What a piece comes to: its digits, going round. -/
def stepV (n : Int) (c : UInt8) : Int := if isD c = true then rnd (n * 10 + (c.toNat - 48 : Nat)) else n
def foldV (T : Bs) : Int := T.foldl stepV 0
def valV (T : Bs) : Int := if T.head? = some 45 then rnd (-(foldV T)) else foldV T
theorem foldV_snoc (T : Bs) (c : UInt8) : foldV (T ++ [c]) = stepV (foldV T) c := by simp [foldV]
theorem foldV_i64 (T : Bs) : i64 (foldV T) := by
  suffices hk : ∀ (T : Bs) (n : Int), i64 n → i64 (T.foldl stepV n) from hk T 0 ⟨by decide, by decide⟩
  intro T
  induction T with
  | nil => intro n h; exact h
  | cons c T ih =>
    intro n h
    refine ih _ ?_
    unfold stepV
    split
    · exact rnd_i64 _
    · exact h
theorem valV_i64 (T : Bs) : i64 (valV T) := by
  unfold valV
  split
  · exact rnd_i64 _
  · exact foldV_i64 _
theorem foldV_dg (n : Nat) : foldV (dg n) = rnd n := by
  refine dg_ind (P := fun n => foldV (dg n) = rnd n) (fun n h => ?_) (fun n h ih => ?_) n
  · rw [dg_small h]
    show stepV 0 (dgt n) = _
    unfold stepV
    rw [if_pos (dgt_isD n), dgt_nat]
    congr 1
    omega
  · rw [dg_step h, foldV_snoc, ih]
    unfold stepV
    rw [if_pos (dgt_isD _), dgt_nat]
    unfold rnd
    omega
theorem valV_dgI {m : Int} (h : i64 m) : valV (dgI m) = m := by
  unfold dgI
  split
  · rename_i hm
    have e : valV (45 :: dg (-m).toNat) = rnd (-(foldV (dg (-m).toNat))) := by
      unfold valV
      rw [if_pos (show (45 :: dg (-m).toNat).head? = some 45 from rfl)]
      have : foldV (45 :: dg (-m).toNat) = foldV (dg (-m).toNat) := rfl
      rw [this]
    rw [e, foldV_dg]
    unfold i64 at h
    unfold rnd
    omega
  · rename_i hm
    have e : valV (dg m.toNat) = foldV (dg m.toNat) := by
      unfold valV
      rw [if_neg (dg_head45 _)]
    rw [e, foldV_dg]
    unfold i64 at h
    unfold rnd
    omega
/-- What Parse answers. -/
def par (T : Bs) : Option (List Bs × List Int) :=
  if stOk (prs T).names ((prs T).vals.map valV).length = true ∧ statT (prs T).names ((prs T).vals.map valV) = T then some ((prs T).names, (prs T).vals.map valV) else none
theorem par_iff (T : Bs) (n : List Bs) (v : List Int) : par T = some (n, v) ↔ stOk n v.length = true ∧ statT n v = T ∧ ∀ x ∈ v, i64 x := by
  unfold par
  constructor
  · intro h
    split at h
    · rename_i k
      have e := Option.some.inj h
      injection e with e1 e2
      rw [← e1, ← e2]
      refine ⟨k.1, k.2, fun x hx => ?_⟩
      obtain ⟨p, -, rfl⟩ := List.mem_map.1 hx
      exact valV_i64 p
    · cases h
  · rintro ⟨h1, h2, h3⟩
    have hp : prs T = ⟨[], [], n, v.map dgI⟩ := by
      rw [stOk_may, Bool.and_eq_true, decide_eq_true_eq] at h1
      have := prs_stat n v h1.1 (mayS_plain h1.2) [] []
      rw [h2] at this
      simpa [prs] using this
    have hv : (prs T).vals.map valV = v := by
      rw [hp]
      simp only [List.map_map]
      have : ∀ (l : List Int), (∀ x ∈ l, i64 x) → l.map (valV ∘ dgI) = l := by
        intro l
        induction l with
        | nil => intro _; rfl
        | cons a l ih =>
          intro h
          simp only [List.map_cons, Function.comp]
          rw [valV_dgI (h a (by simp)), ih (fun x hx => h x (by simp [hx]))]
      exact this v h3
    have hn : (prs T).names = n := by rw [hp]
    rw [hv, hn, if_pos ⟨h1, h2⟩]

/-! ### line by line -/
theorem cut_inj {c : UInt8} : ∀ {a b R S : Bs}, c ∉ a → c ∉ b → a ++ c :: R = b ++ c :: S → a = b ∧ R = S := by
  intro a
  induction a with
  | nil =>
    intro b R S _ hb h
    cases b with
    | nil => exact ⟨rfl, (List.cons.inj h).2⟩
    | cons x b =>
      have := (List.cons.inj h).1
      exact absurd (by rw [← this]; simp) hb
  | cons y a ih =>
    intro b R S ha hb h
    cases b with
    | nil =>
      have := (List.cons.inj h).1
      exact absurd (by rw [this]; simp) ha
    | cons x b =>
      obtain ⟨h1, h2⟩ := List.cons.inj h
      obtain ⟨h3, h4⟩ := ih (fun k => ha (by simp [k])) (fun k => hb (by simp [k])) h2
      exact ⟨by rw [h1, h3], h4⟩
theorem line_inj {a b : Bs} {x y : Int} {R S : Bs} (ha : plain a) (hb : plain b) (h : line a x ++ R = line b y ++ S) : a = b ∧ x = y ∧ R = S := by
  unfold line at h
  have h' : a ++ 32 :: ((dgI x ++ [10]) ++ R) = b ++ 32 :: ((dgI y ++ [10]) ++ S) := by simpa using h
  obtain ⟨h1, h2⟩ := cut_inj ha.1 hb.1 h'
  have h3 : dgI x ++ 10 :: R = dgI y ++ 10 :: S := by simpa using h2
  obtain ⟨h4, h5⟩ := cut_inj (dgI_plain x).2 (dgI_plain y).2 h3
  exact ⟨h1, dgI_inj h4, h5⟩
/-- What is begun as a stat is that stat's beginning. -/
theorem stat_prefix : ∀ (N : List Bs) (V : List Int) (n : List Bs) (v : List Int) (R : Bs), N.length = V.length → n.length = v.length → (∀ x ∈ N, plain x) → (∀ x ∈ n, plain x) → statT N V ++ R = statT n v →
    ∃ n' v', n = N ++ n' ∧ v = V ++ v' ∧ n'.length = v'.length ∧ R = statT n' v' := by
  intro N
  induction N with
  | nil =>
    intro V n v R hl hl' _ _ h
    have : V = [] := List.length_eq_zero_iff.1 hl.symm
    subst this
    exact ⟨n, v, rfl, rfl, hl', by simpa [statT] using h⟩
  | cons a N ih =>
    intro V n v R hl hl' hp hp' h
    cases V with
    | nil => cases hl
    | cons x V =>
      cases n with
      | nil =>
        have e : statT ([] : List Bs) v = [] := by cases v <;> rfl
        rw [e] at h
        have := congrArg List.length h
        simp [statT, line] at this
      | cons b n =>
        cases v with
        | nil => cases hl'
        | cons y v =>
          have h' : line a x ++ (statT N V ++ R) = line b y ++ statT n v := by simpa [statT] using h
          obtain ⟨h1, h2, h3⟩ := line_inj (hp a (by simp)) (hp' b (by simp)) h'
          obtain ⟨n', v', e1, e2, e3, e4⟩ := ih V n v R (by simpa using hl) (by simpa using hl') (fun z hz => hp z (by simp [hz])) (fun z hz => hp' z (by simp [hz])) h3
          exact ⟨n', v', by rw [h1, e1]; rfl, by rw [h2, e2]; rfl, e3, e4⟩
end Go.Proofs.YtbkeoaombhhdiaaDoor
