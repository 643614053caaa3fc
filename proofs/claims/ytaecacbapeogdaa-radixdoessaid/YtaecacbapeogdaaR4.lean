/-
  The document's table: contracts of Nodes and Path.
-/
import Derived.Test.YtaecacbapeogdaaR3
namespace Go.Proofs.Ytaecacbapeogdaa
open Go.RowKit

/-- The nodes counted so far: those of the words ahead, and those of page p on the levels below k. -/
def Cn (W : Tab) (p k : Nat) (x : Nat × Nat) : Prop := (1 ≤ x.1 ∧ x.1 ≤ 3) ∧ (ex W x.1 x.2 ∨ (k < x.1 ∧ x.2 = pg p x.1))
theorem take_rise {D : Ws} (h : Rise D) (i : Nat) : Rise (D.take i) := h.sublist (List.take_sublist i D)
theorem take_ne {D : Ws} (h : Rise D) {i q : Nat} : lookD (D.take i) q ≠ none ↔ ∃ j, ∃ hj : j < D.length, j < i ∧ D[j].1 = q := by
  rw [lookD_ne (take_rise h i)]
  constructor
  · rintro ⟨x, hx⟩
    obtain ⟨j, hj, e⟩ := List.getElem_of_mem hx
    simp at hj
    rw [List.getElem_take] at e
    exact ⟨j, by omega, by omega, by rw [e]⟩
  · rintro ⟨j, hj, hji, e⟩
    refine ⟨D[j].2, ?_⟩
    have : (D.take i)[j]'(by simp; omega) ∈ D.take i := List.getElem_mem _
    rw [List.getElem_take] at this
    rw [← e]; exact this
theorem take_succ_ne {D : Ws} (h : Rise D) {i q : Nat} (hi : i < D.length) : lookD (D.take (i + 1)) q ≠ none ↔ lookD (D.take i) q ≠ none ∨ q = D[i].1 := by
  rw [take_ne h, take_ne h]
  constructor
  · rintro ⟨j, hj, hji, e⟩
    by_cases e1 : j = i
    · subst e1; exact .inr e.symm
    · exact .inl ⟨j, hj, by omega, e⟩
  · rintro (⟨j, hj, hji, e⟩ | e)
    · exact ⟨j, hj, by omega, e⟩
    · exact ⟨i, hi, by omega, e.symm⟩
theorem cn_start {D : Ws} {p i c : Nat} (h : IsCnt (fun x : Nat × Nat => (1 ≤ x.1 ∧ x.1 ≤ 3) ∧ ex (lookD (D.take i)) x.1 x.2) c) : IsCnt (Cn (lookD (D.take i)) p 3) c :=
  h.congr fun x => by
    unfold Cn
    constructor
    · rintro ⟨h1, h2⟩; exact ⟨h1, .inl h2⟩
    · rintro ⟨h1, h2 | h2⟩
      · exact ⟨h1, h2⟩
      · omega
theorem cn_end {D : Ws} (hR : Rise D) {i c : Nat} (hi : i < D.length) (h : IsCnt (Cn (lookD (D.take i)) D[i].1 0) c) : IsCnt (fun x : Nat × Nat => (1 ≤ x.1 ∧ x.1 ≤ 3) ∧ ex (lookD (D.take (i + 1))) x.1 x.2) c :=
  h.congr fun x => by
    unfold Cn
    constructor
    · rintro ⟨h1, ⟨q, hq, e⟩ | ⟨h2, h3⟩⟩
      · exact ⟨h1, q, (take_succ_ne hR hi).2 (.inl hq), e⟩
      · exact ⟨h1, D[i].1, (take_succ_ne hR hi).2 (.inr rfl), h3.symm⟩
    · rintro ⟨h1, q, hq, e⟩
      rcases (take_succ_ne hR hi).1 hq with h2 | h2
      · exact ⟨h1, .inl ⟨q, h2, e⟩⟩
      · exact ⟨h1, .inr ⟨by omega, by rw [← e, h2]⟩⟩
/-- A level on which the page opens a new node. -/
theorem cn_new {W : Tab} {p k c : Nat} (hk : k + 1 ≤ 3) (h : IsCnt (Cn W p (k + 1)) c) (hn : ¬ ex W (k + 1) (pg p (k + 1))) : IsCnt (Cn W p k) (c + 1) := by
  refine h.add (x := (k + 1, pg p (k + 1))) ?_ fun y => ?_
  · rintro ⟨_, h2 | h2⟩
    · exact hn h2
    · simp only at h2; omega
  · obtain ⟨j, q⟩ := y
    unfold Cn
    simp only [Prod.mk.injEq]
    constructor
    · rintro ⟨h1, h2 | ⟨h2, h3⟩⟩
      · exact .inl ⟨h1, .inl h2⟩
      · by_cases e : j = k + 1
        · subst e; exact .inr ⟨rfl, h3⟩
        · exact .inl ⟨h1, .inr ⟨by omega, h3⟩⟩
    · rintro (⟨h1, h2 | ⟨h2, h3⟩⟩ | ⟨rfl, rfl⟩)
      · exact ⟨h1, .inl h2⟩
      · exact ⟨h1, .inr ⟨by omega, h3⟩⟩
      · exact ⟨by omega, .inr ⟨by omega, rfl⟩⟩
theorem cn_old {W : Tab} {p k c : Nat} (h : IsCnt (Cn W p (k + 1)) c) (hn : ex W (k + 1) (pg p (k + 1))) : IsCnt (Cn W p k) c := by
  refine h.congr fun y => ?_
  obtain ⟨j, q⟩ := y
  unfold Cn
  simp only
  constructor
  · rintro ⟨h1, h2 | ⟨h2, h3⟩⟩
    · exact ⟨h1, .inl h2⟩
    · exact ⟨h1, .inr ⟨by omega, h3⟩⟩
  · rintro ⟨h1, h2 | ⟨h2, h3⟩⟩
    · exact ⟨h1, .inl h2⟩
    · by_cases e : j = k + 1
      · subst e
        rw [h3]
        exact ⟨h1, .inl hn⟩
      · exact ⟨h1, .inr ⟨by omega, h3⟩⟩
theorem ex_first {D : Ws} {k q : Nat} : ¬ ex (lookD (D.take 0)) k q := by
  rintro ⟨p, hp, _⟩
  exact absurd rfl hp
theorem div_mono (a b d : Nat) (h : a ≤ b) : a / d ≤ b / d := Nat.div_le_div_right h
/-- Whether it opens one is seen at the page ahead of it. -/
theorem ex_last {D : Ws} (hR : Rise D) {k i : Nat} (hi : i + 1 < D.length) : ex (lookD (D.take (i + 1))) k (pg D[i + 1].1 k) ↔ pg (D[i]'(by omega)).1 k = pg D[i + 1].1 k := by
  constructor
  · rintro ⟨q, hq, e⟩
    obtain ⟨j, hj, hji, rfl⟩ := (take_ne hR).1 hq
    have h1 : D[j].1 ≤ (D[i]'(by omega)).1 := by
      by_cases e1 : j = i
      · subst e1; exact Nat.le_refl _
      · exact Nat.le_of_lt (List.pairwise_iff_getElem.1 hR j i hj (by omega) (by omega))
    have h2 : (D[i]'(by omega)).1 ≤ D[i + 1].1 := Nat.le_of_lt (List.pairwise_iff_getElem.1 hR i (i + 1) (by omega) hi (by omega))
    have h3 : pg D[j].1 k ≤ pg (D[i]'(by omega)).1 k := div_mono _ _ _ h1
    have h4 : pg (D[i]'(by omega)).1 k ≤ pg D[i + 1].1 k := div_mono _ _ _ h2
    omega
  · intro e
    exact ⟨(D[i]'(by omega)).1, (take_ne hR).2 ⟨i, by omega, by omega, rfl⟩, e⟩

theorem quo_ne {z y d : Nat} (h : z / d ≠ y / d) : ((z : Int) / (d : Int) != (y : Int) / (d : Int)) = true := by
  rw [← Int.natCast_ediv, ← Int.natCast_ediv]
  simp only [bne_iff_ne, ne_eq]
  omega
theorem quo_eq {z y d : Nat} (h : z / d = y / d) : ((z : Int) / (d : Int) != (y : Int) / (d : Int)) = false := by
  rw [← Int.natCast_ediv, ← Int.natCast_ediv, h]
  simp

set_option maxRecDepth 100000 in
set_option maxHeartbeats 4000000 in
theorem rnodes (B r : Nat) (D : Ws) (v : Value) (n m : Nat) (w : World) (h : RefIs w B r D v) (hR : Rise D) (hP : ∀ e ∈ D, e.1 < 65536) (hD : D.length < 10000) (hm : Cnts (lookD D) n m) :
    Calls Try.prog 20 #[.pointer (some ⟨r, 0, none⟩)] w fun e w' => e = .returned (.int .i64 (1 + (m : Int))) ∧ ∃ d, w' = w.drewN d := by
  obtain ⟨av, cv, rfl⟩ := h.len
  have hc := h.c0
  go_enter Try.func20, Try.ntmps20
  go_wp2
  go_loopw [3, 4] (fun s3 s4 wr => ∃ i c d : Nat, i ≤ D.length ∧ s4 = .int .i64 i ∧ s3 = .int .i64 (1 + (c : Int)) ∧ c ≤ 3 * i ∧ IsCnt (fun x : Nat × Nat => (1 ≤ x.1 ∧ x.1 ≤ 3) ∧ ex (lookD (D.take i)) x.1 x.2) c ∧ wr = w.drewN d) (fun _ s4 _ => D.length - (intOf s4).toNat)
  case atStart => exact ⟨0, 0, 0, by omega, rfl, rfl, by omega, IsCnt.none fun x h => ex_first h.2, rfl⟩
  case round =>
    obtain ⟨i, c, d0, hi, rfl, rfl, hc3, hcnt, rfl⟩ := hrel
    by_cases hlt : i < D.length
    · have HC : Hid (IsCnt (Cn (lookD (D.take i)) D[i].1 3) c) := cn_start hcnt
      have HEND : Hid (∀ c, IsCnt (Cn (lookD (D.take i)) D[i].1 0) c → IsCnt (fun x : Nat × Nat => (1 ≤ x.1 ∧ x.1 ≤ 3) ∧ ex (lookD (D.take (i + 1))) x.1 x.2) c) := fun c => cn_end hR hlt
      clear hcnt
      go_wp2
      go_loopw [3, 5] (fun s3 s5 wr => ∃ k c d1 dd : Nat, (k = 3 ∧ dd = 16 ∨ k = 2 ∧ dd = 256 ∨ k = 1 ∧ dd = 4096 ∨ k = 0 ∧ dd = 65536) ∧ s5 = .int .i64 dd ∧ s3 = .int .i64 (1 + (c : Int)) ∧ c ≤ 3 * i + (3 - k) ∧ IsCnt (Cn (lookD (D.take i)) D[i].1 k) c ∧ wr = w.drewN d1) (fun _ s5 _ => (65536 - intOf s5).toNat)
      case atStart => exact ⟨3, c, d0, 16, .inl ⟨rfl, rfl⟩, rfl, rfl, by omega, HC.out, rfl⟩
      case round =>
        clear HC
        obtain ⟨k, c2, d1, dd, hk, rfl, rfl, hc4, hcnt, rfl⟩ := hrel
        have HCNT : Hid (IsCnt (Cn (lookD (D.take i)) D[i].1 k) c2) := hcnt
        clear hcnt
        rcases hk with ⟨rfl, rfl⟩ | ⟨rfl, rfl⟩ | ⟨rfl, rfl⟩ | ⟨rfl, rfl⟩
        · by_cases hi0 : i = 0
          · subst hi0
            have HN : Hid (IsCnt (Cn (lookD (D.take 0)) D[0].1 2) (c2 + 1)) := cn_new (by omega) HCNT.out ex_first
            go_wp2
            go_quiet (fail)
            go_wp2
            exact ⟨⟨2, c2 + 1, _, 256, .inr (.inl ⟨rfl, rfl⟩), rfl, by go_num, by omega, HN.out, (by first | rfl | exact World.drewN_drewN _ _ _)⟩, by simp [intOf]⟩
          · obtain ⟨j, hj⟩ : ∃ j, j + 1 = i := ⟨i - 1, by omega⟩
            have hjD : j < D.length := by omega
            obtain ⟨g, cc, hv, e0, -⟩ := h.at hlt
            injection hv with hv1 _ hv2
            subst hv1
            subst hv2
            obtain ⟨g', cc', hv', f0, -⟩ := h.at hjD
            have h3 := congrArg Value.ownBlock hv'
            simp [Value.ownBlock] at h3
            subst h3
            have kk : IntKind.i64.wrap ((i : Int) - 1) = (j : Int) := by rw [IntKind.wrap_i64]; omega
            have qi : ((i : Int) == 0) = false := by simp; omega
            have HX : Hid (ex (lookD (D.take i)) 3 (pg D[i].1 3) ↔ D[j].1 / 16 = D[i].1 / 16) := by
              subst hj
              have := ex_last hR (k := 3) hlt
              rw [pg_three, pg_three] at this
              show _ ↔ _
              rw [pg_three]
              exact this
            have hpz := hP _ (List.getElem_mem hjD)
            have hpy := hP _ (List.getElem_mem hlt)
            obtain ⟨y, hy⟩ : ∃ y, y = D[i].1 := ⟨_, rfl⟩
            obtain ⟨z, hz⟩ : ∃ z, z = D[j].1 := ⟨_, rfl⟩
            rw [← hy] at e0 hpy
            rw [← hz] at f0 hpz
            by_cases hq : z / 16 = y / 16
            · have HQ : Hid (((z : Int) / 16 != (y : Int) / 16) = false) := quo_eq (d := 16) hq
              have HN : Hid (IsCnt (Cn (lookD (D.take i)) D[i].1 2) c2) := cn_old HCNT.out (HX.out.2 (by rw [← hy, ← hz]; exact hq))
              clear hj hv' hy hz hq HX
              go_wp2
              go_quiet (fail)
              rw [HQ.out]
              go_wp2
              exact ⟨⟨2, c2, _, 256, .inr (.inl ⟨rfl, rfl⟩), rfl, rfl, by omega, HN.out, (by first | rfl | exact World.drewN_drewN _ _ _)⟩, by simp [intOf]⟩
            · have HQ : Hid (((z : Int) / 16 != (y : Int) / 16) = true) := quo_ne (d := 16) hq
              have HN : Hid (IsCnt (Cn (lookD (D.take i)) D[i].1 2) (c2 + 1)) := cn_new (by omega) HCNT.out (fun hx => hq (by have := HX.out.1 hx; rw [← hy, ← hz] at this; exact this))
              clear hj hv' hy hz hq HX
              go_wp2
              go_quiet (fail)
              rw [HQ.out]
              go_wp2
              exact ⟨⟨2, c2 + 1, _, 256, .inr (.inl ⟨rfl, rfl⟩), rfl, by go_num, by omega, HN.out, (by first | rfl | exact World.drewN_drewN _ _ _)⟩, by simp [intOf]⟩
        · by_cases hi0 : i = 0
          · subst hi0
            have HN : Hid (IsCnt (Cn (lookD (D.take 0)) D[0].1 1) (c2 + 1)) := cn_new (by omega) HCNT.out ex_first
            go_wp2
            go_quiet (fail)
            go_wp2
            exact ⟨⟨1, c2 + 1, _, 4096, .inr (.inr (.inl ⟨rfl, rfl⟩)), rfl, by go_num, by omega, HN.out, (by first | rfl | exact World.drewN_drewN _ _ _)⟩, by simp [intOf]⟩
          · obtain ⟨j, hj⟩ : ∃ j, j + 1 = i := ⟨i - 1, by omega⟩
            have hjD : j < D.length := by omega
            obtain ⟨g, cc, hv, e0, -⟩ := h.at hlt
            injection hv with hv1 _ hv2
            subst hv1
            subst hv2
            obtain ⟨g', cc', hv', f0, -⟩ := h.at hjD
            have h3 := congrArg Value.ownBlock hv'
            simp [Value.ownBlock] at h3
            subst h3
            have kk : IntKind.i64.wrap ((i : Int) - 1) = (j : Int) := by rw [IntKind.wrap_i64]; omega
            have qi : ((i : Int) == 0) = false := by simp; omega
            have HX : Hid (ex (lookD (D.take i)) 2 (pg D[i].1 2) ↔ D[j].1 / 256 = D[i].1 / 256) := by
              subst hj
              have := ex_last hR (k := 2) hlt
              rw [pg_two, pg_two] at this
              show _ ↔ _
              rw [pg_two]
              exact this
            have hpz := hP _ (List.getElem_mem hjD)
            have hpy := hP _ (List.getElem_mem hlt)
            obtain ⟨y, hy⟩ : ∃ y, y = D[i].1 := ⟨_, rfl⟩
            obtain ⟨z, hz⟩ : ∃ z, z = D[j].1 := ⟨_, rfl⟩
            rw [← hy] at e0 hpy
            rw [← hz] at f0 hpz
            by_cases hq : z / 256 = y / 256
            · have HQ : Hid (((z : Int) / 256 != (y : Int) / 256) = false) := quo_eq (d := 256) hq
              have HN : Hid (IsCnt (Cn (lookD (D.take i)) D[i].1 1) c2) := cn_old HCNT.out (HX.out.2 (by rw [← hy, ← hz]; exact hq))
              clear hj hv' hy hz hq HX
              go_wp2
              go_quiet (fail)
              rw [HQ.out]
              go_wp2
              exact ⟨⟨1, c2, _, 4096, .inr (.inr (.inl ⟨rfl, rfl⟩)), rfl, rfl, by omega, HN.out, (by first | rfl | exact World.drewN_drewN _ _ _)⟩, by simp [intOf]⟩
            · have HQ : Hid (((z : Int) / 256 != (y : Int) / 256) = true) := quo_ne (d := 256) hq
              have HN : Hid (IsCnt (Cn (lookD (D.take i)) D[i].1 1) (c2 + 1)) := cn_new (by omega) HCNT.out (fun hx => hq (by have := HX.out.1 hx; rw [← hy, ← hz] at this; exact this))
              clear hj hv' hy hz hq HX
              go_wp2
              go_quiet (fail)
              rw [HQ.out]
              go_wp2
              exact ⟨⟨1, c2 + 1, _, 4096, .inr (.inr (.inl ⟨rfl, rfl⟩)), rfl, by go_num, by omega, HN.out, (by first | rfl | exact World.drewN_drewN _ _ _)⟩, by simp [intOf]⟩
        · by_cases hi0 : i = 0
          · subst hi0
            have HN : Hid (IsCnt (Cn (lookD (D.take 0)) D[0].1 0) (c2 + 1)) := cn_new (by omega) HCNT.out ex_first
            go_wp2
            go_quiet (fail)
            go_wp2
            exact ⟨⟨0, c2 + 1, _, 65536, .inr (.inr (.inr ⟨rfl, rfl⟩)), rfl, by go_num, by omega, HN.out, (by first | rfl | exact World.drewN_drewN _ _ _)⟩, by simp [intOf]⟩
          · obtain ⟨j, hj⟩ : ∃ j, j + 1 = i := ⟨i - 1, by omega⟩
            have hjD : j < D.length := by omega
            obtain ⟨g, cc, hv, e0, -⟩ := h.at hlt
            injection hv with hv1 _ hv2
            subst hv1
            subst hv2
            obtain ⟨g', cc', hv', f0, -⟩ := h.at hjD
            have h3 := congrArg Value.ownBlock hv'
            simp [Value.ownBlock] at h3
            subst h3
            have kk : IntKind.i64.wrap ((i : Int) - 1) = (j : Int) := by rw [IntKind.wrap_i64]; omega
            have qi : ((i : Int) == 0) = false := by simp; omega
            have HX : Hid (ex (lookD (D.take i)) 1 (pg D[i].1 1) ↔ D[j].1 / 4096 = D[i].1 / 4096) := by
              subst hj
              have := ex_last hR (k := 1) hlt
              rw [pg_one, pg_one] at this
              show _ ↔ _
              rw [pg_one]
              exact this
            have hpz := hP _ (List.getElem_mem hjD)
            have hpy := hP _ (List.getElem_mem hlt)
            obtain ⟨y, hy⟩ : ∃ y, y = D[i].1 := ⟨_, rfl⟩
            obtain ⟨z, hz⟩ : ∃ z, z = D[j].1 := ⟨_, rfl⟩
            rw [← hy] at e0 hpy
            rw [← hz] at f0 hpz
            by_cases hq : z / 4096 = y / 4096
            · have HQ : Hid (((z : Int) / 4096 != (y : Int) / 4096) = false) := quo_eq (d := 4096) hq
              have HN : Hid (IsCnt (Cn (lookD (D.take i)) D[i].1 0) c2) := cn_old HCNT.out (HX.out.2 (by rw [← hy, ← hz]; exact hq))
              clear hj hv' hy hz hq HX
              go_wp2
              go_quiet (fail)
              rw [HQ.out]
              go_wp2
              exact ⟨⟨0, c2, _, 65536, .inr (.inr (.inr ⟨rfl, rfl⟩)), rfl, rfl, by omega, HN.out, (by first | rfl | exact World.drewN_drewN _ _ _)⟩, by simp [intOf]⟩
            · have HQ : Hid (((z : Int) / 4096 != (y : Int) / 4096) = true) := quo_ne (d := 4096) hq
              have HN : Hid (IsCnt (Cn (lookD (D.take i)) D[i].1 0) (c2 + 1)) := cn_new (by omega) HCNT.out (fun hx => hq (by have := HX.out.1 hx; rw [← hy, ← hz] at this; exact this))
              clear hj hv' hy hz hq HX
              go_wp2
              go_quiet (fail)
              rw [HQ.out]
              go_wp2
              exact ⟨⟨0, c2 + 1, _, 65536, .inr (.inr (.inr ⟨rfl, rfl⟩)), rfl, by go_num, by omega, HN.out, (by first | rfl | exact World.drewN_drewN _ _ _)⟩, by simp [intOf]⟩
        · have HN : Hid (IsCnt (fun x : Nat × Nat => (1 ≤ x.1 ∧ x.1 ≤ 3) ∧ ex (lookD (D.take (i + 1))) x.1 x.2) c2) := HEND.out c2 HCNT.out
          clear HCNT
          go_wp2
          exact ⟨⟨i + 1, c2, d1, by omega, by go_num, rfl, by omega, HN.out, rfl⟩, by simp [intOf]; omega⟩
    · have hD' : D.take i = D := List.take_of_length_le (by omega)
      rw [hD'] at hcnt
      obtain rfl := hcnt.unique hm.m fun _ => Iff.rfl
      clear hcnt hD'
      go_wp2
      go_ret
      exact ⟨rfl, _, rfl⟩

/-! ### Path -/
set_option maxHeartbeats 2000000 in
theorem rpath (x : Int) (w : World) : Calls Try.prog 25 #[.int .i64 x] w fun e w' => ∃ v, e = .returned v ∧ w'.ownsRow w.heap.size 3 1 v (pathL x).length ((pathL x).map iv) ∧ Below w.heap.size w w' := by
  cases hx : isPg x with
  | false =>
    have e1 : (decide (0 ≤ x) && decide (x < 65536)) = false := hx
    rw [pathL_no hx]
    clear hx
    go_enter Try.func25, Try.ntmps25
    go_wp2_with fail
    refine (rpage _ _).mono ?_
    rintro e w1 ⟨rfl, rfl⟩
    rw [e1]
    go_wp2
    go_ret
    exact ⟨_, rfl, World.ownsRow_nil _ _ _ _, Below.refl _ _⟩
  | true =>
    obtain ⟨p, rfl, hp⟩ := isPg_true hx
    have e1 : (decide (0 ≤ (p : Int)) && decide ((p : Int) < 65536)) = true := hx
    rw [pathL_nat hp]
    clear hx
    go_enter Try.func25, Try.ntmps25
    go_wp2_with fail
    refine (rpage _ _).mono ?_
    rintro e w1 ⟨rfl, rfl⟩
    rw [e1]
    go_wp2
    go_ret
    refine ⟨_, rfl, ⟨by simp, .inr ⟨w1.heap.size, 4, _, rfl, Nat.le_refl _, heap_alloc_new _ _, by omega, by decide, by simp, ?_⟩⟩, below_alloc _ _⟩
    have e0 : dg p 0 = p / 4096 := by rw [dg_0]; omega
    rw [e0, dg_1, dg_2, dg_3]
    simp [iv]
end Go.Proofs.Ytaecacbapeogdaa
