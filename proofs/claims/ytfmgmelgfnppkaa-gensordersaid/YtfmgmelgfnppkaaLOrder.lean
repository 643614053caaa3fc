/-
  The law GensOrder walked.
-/
import Derived.Test.YtfmgmelgfnppkaaLOld
namespace Go.Proofs.Ytfmgmelgfnppkaa
open Go.RowKit

theorem all_next (G : List Int) (x : Int) {q : Nat} (hq : q < G.length) : ((G.take (q + 1)).all fun y => y != x) = (((G.take q).all fun y => y != x) && G[q] != x) := by
  rw [← List.take_append_getElem hq, List.all_append]
  simp
theorem all_mem (G : List Int) (x : Int) : (G.all fun y => y != x) = true ↔ x ∉ G := by
  simp only [List.all_eq_true, bne_iff_ne]
  exact ⟨fun h hx => h x hx rfl, fun h y hy e => h (e ▸ hy)⟩
/-- How many are of the first groups. -/
def alN (L : List En) (G : List Int) (k : Nat) : Nat := L.countP (inG (G.take k))
theorem alN_next (L : List En) {G : List Int} {k : Nat} (hk : k < G.length) : alN L G (k + 1) = alN L G k + if ((G.take k).all fun y => y != G[k]) then cntL L G[k] else 0 := by
  unfold alN
  rw [← List.take_append_getElem hk, inG_more]
  by_cases h : G[k] ∈ G.take k
  · have : ((G.take k).all fun y => y != G[k]) = false := by
      cases hq : ((G.take k).all fun y => y != G[k])
      · rfl
      · exact absurd h ((all_mem _ _).1 hq)
    rw [this, if_pos h]; rfl
  · rw [(all_mem _ _).2 h, if_neg h]; rfl
theorem alN_zero (L : List En) (G : List Int) : alN L G 0 = 0 := by
  unfold alN
  rw [List.take_zero, List.countP_eq_zero]
  intro x _
  simp [inG]
theorem alN_le (L : List En) (G : List Int) (k : Nat) : alN L G k ≤ L.length := List.countP_le_length
theorem touched {L : List En} (h : Ok L) {i : Int} {x : En} (hx : x ∈ touchL L i) (hi : x.i = i) : x.a = 0 := by
  have h1 := lk_self (touchL_ok h i).srt hx
  rw [hi, touchL_lk] at h1
  cases hl : lk L i with
  | none =>
    rw [hl, Option.map_none] at h1
    cases h1
  | some y =>
    rw [hl] at h1
    have := (h.lk hl).2
    rw [Option.map_some] at h1
    rw [← Option.some.inj h1]
    unfold tou
    rw [if_pos this]

/-- What is known of one in the order. -/
theorem iL_at {L : List En} (h : Ok L) {G N : List Int} (hN : N = iL L G) {k : Nat} (hk : k < N.length) :
    (G.any fun y => y == grpN L N[k]) = true ∧ 0 ≤ oldN L N[k] ∧ oldN L N[k] ≤ 3 ∧ ∃ x, x ∈ L ∧ x.i = N[k] ∧ oldN L N[k] = x.a := by
  subst hN
  obtain ⟨x, m1, g1, e1⟩ := iL_wf h G _ (List.getElem_mem hk)
  have hg : grpN L (iL L G)[k] = x.g := by rw [← e1]; exact grpN_some (lk_self h.srt m1)
  have ho : oldN L (iL L G)[k] = x.a := by rw [← e1]; exact old_mem h m1
  rw [hg, ho]
  exact ⟨g1, (h.rng x m1).2.2.1, (h.rng x m1).2.2.2, x, m1, e1, rfl⟩
theorem iL_prev {L : List En} (h : Ok L) {G N : List Int} (hN : N = iL L G) {p : Nat} (hp : p + 1 < N.length) :
    oldN L N[p + 1] < oldN L (N[p]'(by omega)) ∨ oldN L (N[p]'(by omega)) = oldN L N[p + 1] ∧ N[p]'(by omega) < N[p + 1] := by
  subst hN
  obtain ⟨x, y, m1, m2, f1, f2, hah⟩ := iL_next h G hp
  rw [f1, f2, old_mem h m1, old_mem h m2]
  exact hah

set_option maxRecDepth 100000 in
theorem order_out (a : Option Addr) (cap n : Nat) (b : Option Addr) (cb k : Nat) (i : Int) (w : World) (h : decide ((80 : Int) < (n : Int)) = true ∨ (decide ((80 : Int) < (n : Int)) = false ∧ decide ((80 : Int) < (k : Int)) = true)) :
    Calls Try.prog 4 #[.slice a n cap, .slice b k cb, .int .i64 i] w fun e w' => e = .returned (.bool true) ∧ Below w.heap.size w w' := by
  rcases h with q1 | ⟨q1, q2⟩
  all_goals
    go_enter Try.func4, Try.ntmps4
    go_wp2_with (go_at_call 9; refine (works_any _).mono ?_; rintro e w1 ⟨rfl, hb⟩)
    go_ret
    exact ⟨rfl, hb⟩

set_option maxRecDepth 100000 in
set_option maxHeartbeats 8000000 in
theorem order_in (a : Option Addr) (cap : Nat) (l : List Ac) (bg : Option Addr) (cg : Nat) (G : List Int) (i : Int) (w : World) (hl : l.length ≤ 80) (hgl : G.length ≤ 80) (hc : ActsAt w a l) (hG : Ints w bg G) (hi : (Lit.int .i64 i).wf = true) :
    Calls Try.prog 4 #[.slice a l.length cap, .slice bg G.length cg, .int .i64 i] w fun e w' => e = .returned (.bool true) ∧ Below w.heap.size w w' := by
  have d1 : decide ((80 : Int) < (l.length : Int)) = false := by simp; omega
  have d2 : decide ((80 : Int) < (G.length : Int)) = false := by simp; omega
  have HGI : Hid (Ints w bg G) := hG
  clear hG
  go_enter Try.func4, Try.ntmps4
  go_wp2_with fail
  refine (works_any _).mono ?_
  rintro e w1 ⟨rfl, hb1⟩
  go_wp2_with fail
  refine (newO hb1).mono ?_
  rintro e w2 ⟨x, m, rfl, h2, -⟩
  clear hb1 d1 d2
  go_wp2_with fail
  go_loopw [9] (fun s9 wr => ∃ j : Nat, j ≤ l.length ∧ s9 = .int .i64 j ∧ Ow w wr x m (doN l j)) (fun s9 _ => l.length - (intOf s9).toNat)
  case atStart => exact ⟨0, by omega, rfl, h2⟩
  case round =>
    clear h2
    obtain ⟨j, hj, rfl, hT⟩ := hrel
    have hdl := doN_len l j hj
    by_cases hlt : j < l.length
    · obtain ⟨b, off, rfl, k0, k1, k2, k3, hw⟩ := (hc.below hT.bel).at hlt
      have hD := doN_succ l j hlt
      obtain ⟨r, hr⟩ : ∃ r, r = l[j] := ⟨_, rfl⟩
      rw [← hr] at k0 k1 k2 k3 hw hD
      have d0 : decide ((j : Int) < (l.length : Int)) = true := by simp; omega
      have C := hid (doO hT (by omega) r hw)
      have HD : Hid (doN l (j + 1) = doA (doN l j) r) := hD
      clear hr hw hD hT
      go_wp2_with fail
      refine C.out.mono ?_
      rintro e w3 ⟨rfl, h3, -⟩
      rw [← HD.out] at h3
      clear C
      go_wp2_with fail
      exact ⟨⟨j + 1, by omega, by go_num, h3⟩, by simp [intOf]; omega⟩
    · obtain rfl : j = l.length := by omega
      have d0 : decide ((l.length : Int) < (l.length : Int)) = false := by simp
      obtain ⟨L, hL⟩ : ∃ L, L = doN l l.length := ⟨_, rfl⟩
      rw [← hL] at hT hdl
      have hLl : L.length < 900000 := by omega
      have HOK0 : Hid (Ok L) := hT.ls.ok
      have HLL : Hid (L.length ≤ 80) := (by show _ ≤ _; omega)
      clear hL hdl hlt hc hLl
      have C1 := hid (touchO hT (by have := HLL.out; omega) hi)
      clear hT
      have HOK : Hid (Ok (touchL L i)) := touchL_ok HOK0.out i
      have HTO : Hid (∀ y ∈ touchL L i, y.i = i → y.a = 0) := fun y hy => touched HOK0.out hy
      have hl1 : (touchL L i).length ≤ 80 := by have := HLL.out; simp [touchL, turn_len]; exact this
      obtain ⟨L1, hL1⟩ : ∃ L1, L1 = touchL L i := ⟨_, rfl⟩
      rw [← hL1] at C1 HOK HTO hl1
      clear hL1
      go_wp2_with fail
      refine C1.out.mono ?_
      rintro e w3 ⟨rfl, h3, -⟩
      have C2 := hid (orderO h3 (by omega) cg (HGI.out.later h3.bel) (by omega))
      clear h3 C1
      go_wp2_with fail
      refine C2.out.mono ?_
      rintro e w4 ⟨a5, c5, N, hN, rfl, hI4, h4, -⟩
      have HN : Hid (N = iL L1 G) := hN
      have hnb : N.length ≤ 80 := by rw [hN]; unfold iL; rw [List.length_map, ordL_len HOK.out]; exact Nat.le_trans List.countP_le_length hl1
      have HNL : Hid (N.length = alN L1 G G.length) := by show _ = _; rw [hN]; unfold iL alN; rw [List.length_map, ordL_len HOK.out, List.take_length]
      clear hN C2
      go_wp2_with fail
      go_loopw [11, 12] (fun s11 s12 wr => ∃ (k : Nat) (n : Nat), k ≤ G.length ∧ s12 = .int .i64 k ∧ s11 = .int .i64 n ∧ n = alN L1 G k ∧ Ow w wr x m L1 ∧ Ints wr a5 N) (fun _ s12 _ => G.length - (intOf s12).toNat)
      case atStart => exact ⟨0, 0, by omega, rfl, rfl, (alN_zero L1 G).symm, h4, hI4⟩
      case round =>
        clear h4 hI4
        obtain ⟨k, n, hk, rfl, rfl, hn, hT, hIN⟩ := hrel
        have HNN : Hid (n = alN L1 G k) := hn
        have hnn : n ≤ 80 := by have := alN_le L1 G k; omega
        clear hn
        by_cases hkl : k < G.length
        · have hqq : decide ((k : Int) < (G.length : Int)) = true := by simp; omega
          obtain ⟨b2, o2, rfl, hgc, -⟩ := (HGI.out.later hT.bel).get hkl
          have HNX := hid (alN_next L1 hkl)
          have HGG : Hid (∀ q (h : q < G.length) W, Below w.heap.size w W → W.cell? ⟨b2, o2 + q, none⟩ = some (.int .i64 G[q])) := fun q h W hW => by
            obtain ⟨b', o', e', g1, -⟩ := (HGI.out.later hW).get h
            injection e' with e'
            injection e' with e1 e2
            subst e1
            subst e2
            exact g1
          obtain ⟨z, hz⟩ : ∃ z, z = G[k] := ⟨_, rfl⟩
          rw [← hz] at hgc
          have HNX2 : Hid (alN L1 G (k + 1) = n + if ((G.take k).all fun y => y != z) then cntL L1 z else 0) := by show _ = _; rw [HNX.out, HNN.out, hz]
          have HT := hid hT
          have HIN := hid hIN
          clear hz HNX HNN hT hIN
          go_wp2_with fail
          obtain ⟨wo, rfl⟩ : ∃ wo, wo = wr := ⟨_, rfl⟩
          go_loopw [13, 14] (fun s13 s14 wx => ∃ (q : Nat) (p : Bool), q ≤ k ∧ s14 = .int .i64 q ∧ s13 = .bool p ∧ p = ((G.take q).all fun y => y != z) ∧ ∃ n, wx = wo.drewN n) (fun _ s14 _ => k - (intOf s14).toNat)
          case atStart => exact ⟨0, true, by omega, rfl, rfl, rfl, 0, rfl⟩
          case round =>
            obtain ⟨q, p, hq, rfl, rfl, hp, n1, rfl⟩ := hrel
            have HPP : Hid (p = (G.take q).all fun y => y != z) := hp
            clear hp
            by_cases hqk : q < k
            · have hqd : decide ((q : Int) < (k : Int)) = true := by simp; omega
              have hql : q < G.length := by omega
              have hyc := HGG.out q hql wo HT.out.bel
              obtain ⟨y, hy⟩ : ∃ y, y = G[q] := ⟨_, rfl⟩
              rw [← hy] at hyc
              have HZ : Hid (((G.take (q + 1)).all fun y => y != z) = (p && y != z)) := by show _ = _; rw [all_next G z hql, hy, HPP.out]
              clear hy
              cases p with
              | false =>
                go_wp2_with fail
                go_quiet (fail)
                go_wp2
                exact ⟨⟨q + 1, false, by omega, by go_num, rfl, HZ.out.symm, _, rfl⟩, by simp [intOf]; omega⟩
              | true =>
                cases hyz : (y != z)
                all_goals
                  rw [hyz] at HZ
                  go_wp2_with fail
                  go_quiet (fail)
                  go_wp2
                  exact ⟨⟨q + 1, _, by omega, by go_num, rfl, HZ.out.symm, _, rfl⟩, by simp [intOf]; omega⟩
            · obtain rfl : q = k := by omega
              have hqd : decide ((q : Int) < (q : Int)) = false := by simp
              rw [← HPP.out] at HNX2
              have hwd : Below wo.heap.size wo (wo.drewN n1) := ⟨rfl, rfl, rfl, Nat.le_refl _, fun _ _ => rfl⟩
              have HT2 := hid (HT.out.later hwd)
              have HI2 := hid (HIN.out.later hwd)
              have hgc2 := cell_later hwd hgc
              clear HPP hwd hgc
              cases p with
              | false =>
                have HE : Hid (n = alN L1 G (q + 1)) := HNX2.out.symm
                go_wp2
                exact ⟨⟨q + 1, n, by omega, by go_num, rfl, HE.out, HT2.out, HI2.out⟩, by simp [intOf]; omega⟩
              | true =>
                have C3 := hid (countO HT2.out (by omega) z)
                have hcz : cntL L1 z ≤ 80 := by have := cnt_le L1 z; omega
                obtain ⟨c, hcc⟩ : ∃ c, c = cntL L1 z := ⟨_, rfl⟩
                rw [← hcc] at C3 HNX2 hcz
                have HE : Hid (n + c = alN L1 G (q + 1)) := HNX2.out.symm
                clear hcc
                go_wp2_with fail
                refine C3.out.mono ?_
                rintro e w6 ⟨rfl, h6, hb6⟩
                have HI6 := hid (HI2.out.later hb6)
                clear C3 hb6
                go_wp2_with fail
                exact ⟨⟨q + 1, n + c, by omega, by go_num, by go_num, HE.out, h6, HI6.out⟩, by simp [intOf]; omega⟩
        · obtain rfl : k = G.length := by omega
          have hqq : decide ((G.length : Int) < (G.length : Int)) = false := by simp
          have HNT : Hid (N.length = n) := by show _ = _; rw [HNL.out, HNN.out]
          clear HNN hkl hk
          go_wp2_with fail
          go_loopw [15] (fun s15 wr => ∃ k : Nat, k ≤ N.length ∧ s15 = .int .i64 k ∧ Ow w wr x m L1 ∧ Ints wr a5 N) (fun s15 _ => N.length - (intOf s15).toNat)
          case atStart => exact ⟨0, by omega, rfl, hT, hIN⟩
          case round =>
            clear hT hIN
            obtain ⟨k, hk, rfl, hT, hIN⟩ := hrel
            by_cases hkl : k < N.length
            · have hqk : decide ((k : Int) < (N.length : Int)) = true := by simp; omega
              obtain ⟨b1, o1, rfl, g1, v1⟩ := hIN.get hkl
              have HNC : Hid (∀ q (h : q < N.length) W, Ints W (some ⟨b1, o1, none⟩) N → W.cell? ⟨b1, o1 + q, none⟩ = some (.int .i64 N[q]) ∧ (Lit.int .i64 N[q]).wf = true) := fun q h W hW => by
                obtain ⟨b', o', e', g1, v1⟩ := hW.get h
                injection e' with e'
                injection e' with e1 e2
                subst e1
                subst e2
                exact ⟨g1, v1⟩
              obtain ⟨fg, f0, f3, xx, mx, ex, fo⟩ := iL_at HOK.out HN.out hkl
              have hto : N[k] = i → oldN L1 N[k] = 0 := fun e => by rw [fo]; exact HTO.out xx mx (ex.trans e)
              have HPV : Hid (∀ p (h : p + 1 < N.length), oldN L1 N[p + 1] < oldN L1 N[p] ∨ oldN L1 N[p] = oldN L1 N[p + 1] ∧ N[p] < N[p + 1]) := fun p h => iL_prev HOK.out HN.out h
              obtain ⟨Z, hZ⟩ : ∃ Z, Z = N[k] := ⟨_, rfl⟩
              rw [← hZ] at g1 v1 fg f0 f3 hto
              have HZ := hid hZ
              obtain ⟨A, hA⟩ : ∃ A, A = oldN L1 Z := ⟨_, rfl⟩
              rw [← hA] at f0 f3 hto
              have HA := hid hA
              obtain ⟨gz, hgz⟩ : ∃ g, g = grpN L1 Z := ⟨_, rfl⟩
              rw [← hgz] at fg
              have HGZ := hid hgz
              have HFG := hid fg
              have q1 : decide (A < 0) = false := by simp; omega
              have q2 : decide (3 < A) = false := by simp; omega
              have hzi : (Z == i) = false ∨ ((Z == i) = true ∧ (A != 0) = false) := by
                by_cases e : Z = i
                · exact Or.inr ⟨by simpa using e, by simp [hto e]⟩
                · exact Or.inl (by simpa using e)
              have HZI : Hid ((Z == i) = false ∨ ((Z == i) = true ∧ (A != 0) = false)) := hzi
              have HT := hid hT
              have HIN := hid hIN
              clear hZ hA hgz fg f0 f3 hto fo ex mx hzi hT hIN
              go_wp2_with fail
              go_loopw [16, 17] (fun s16 s17 wx => ∃ (q : Nat) (p : Bool), q ≤ G.length ∧ s17 = .int .i64 q ∧ s16 = .bool p ∧ p = ((G.take q).any fun y => y == gz) ∧ Ow w wx x m L1 ∧ Ints wx (some ⟨b1, o1, none⟩) N) (fun _ s17 _ => G.length - (intOf s17).toNat)
              case atStart => exact ⟨0, false, by omega, rfl, rfl, rfl, HT.out, HIN.out⟩
              case round =>
                clear HT HIN g1
                obtain ⟨q, p, hq, rfl, rfl, hp, hT, hIN⟩ := hrel
                have HPP : Hid (p = (G.take q).any fun y => y == gz) := hp
                clear hp
                have hgk := (HNC.out k hkl _ hIN).1
                rw [← HZ.out] at hgk
                by_cases hql : q < G.length
                · have hqd : decide ((q : Int) < (G.length : Int)) = true := by simp; omega
                  obtain ⟨b2, o2, rfl, hyc, -⟩ := (HGI.out.later hT.bel).get hql
                  obtain ⟨y, hy⟩ : ∃ y, y = G[q] := ⟨_, rfl⟩
                  rw [← hy] at hyc
                  have HZZ : Hid (((G.take (q + 1)).any fun y => y == gz) = (p || y == gz)) := by show _ = _; rw [any_next G gz hql, hy, HPP.out]
                  clear hy
                  cases p with
                  | true =>
                    have HT := hid (fun n => hT.later (show Below wr.heap.size wr (wr.drewN n) from ⟨rfl, rfl, rfl, Nat.le_refl _, fun _ _ => rfl⟩))
                    have HIN := hid (fun n => hIN.later (show Below wr.heap.size wr (wr.drewN n) from ⟨rfl, rfl, rfl, Nat.le_refl _, fun _ _ => rfl⟩))
                    clear hT hIN
                    go_wp2_with fail
                    go_quiet (fail)
                    go_wp2
                    exact ⟨⟨q + 1, true, by omega, by go_num, rfl, HZZ.out.symm, HT.out _, HIN.out _⟩, by simp [intOf]; omega⟩
                  | false =>
                    have K1 : Hid (∀ q : Up wr, Calls Try.prog 19 #[.pointer (some ⟨x, 0, none⟩), .int .i64 Z] q.p fun e w' => e = .returned (.int .i64 gz) ∧ Below q.p.heap.size q.p w') := fun q => HGZ.out ▸ pgroup x m L1 Z q.p (hT.ls.below q.h) v1
                    have l1 := Up.cell hgk
                    have l2 := Up.cell hyc
                    have hne := Up.any wr
                    have HIN := hid hIN
                    clear hIN
                    cases hyz : (y == gz)
                    all_goals
                      rw [hyz] at HZZ
                      go_wp2_with fail
                      refine wp_region_up (by kernel_rfl) (by kernel_rfl) ?_
                      repeat (go_big_quiet_step ((go_at_call 19; exact Up.call (K1.out _))))
                      refine wpQuiet_nil ?_
                      intro w17 hw'
                      obtain ⟨⟨_, hbw⟩, rfl⟩ := hw'
                      have h7 := hT.later hbw
                      have HI7 := hid (HIN.out.later hbw)
                      clear l1 l2 hne K1 hT hbw
                      go_wp2
                      exact ⟨⟨q + 1, _, by omega, by go_num, rfl, HZZ.out.symm, h7, HI7.out⟩, by simp [intOf]; omega⟩
                · obtain rfl : q = G.length := by omega
                  have hqd : decide ((G.length : Int) < (G.length : Int)) = false := by simp
                  have hpt : p = true := by rw [HPP.out, List.take_length]; exact HFG.out
                  subst hpt
                  have C4 := hid (oldO hT v1)
                  rw [← HA.out] at C4
                  have HIN := hid hIN
                  clear hT hIN HPP
                  go_wp2_with fail
                  refine C4.out.mono ?_
                  rintro e w6 ⟨rfl, h6, hb6⟩
                  have HI6 := hid (HIN.out.later hb6)
                  have hgk6 := (HNC.out k hkl _ HI6.out).1
                  rw [← HZ.out] at hgk6
                  have H6 := hid h6
                  clear hb6 h6 hgk C4 HIN
                  have hzi := HZI.out
                  clear HZI
                  rcases hzi with q3 | ⟨q3, q4⟩
                  all_goals
                    go_wp2_with fail
                    cases k with
                    | zero =>
                      have HT := hid (fun n => H6.out.later (show Below w6.heap.size w6 (w6.drewN n) from ⟨rfl, rfl, rfl, Nat.le_refl _, fun _ _ => rfl⟩))
                      have HIN := hid (fun n => HI6.out.later (show Below w6.heap.size w6 (w6.drewN n) from ⟨rfl, rfl, rfl, Nat.le_refl _, fun _ _ => rfl⟩))
                      have q5 : decide ((0 : Int) < 0) = false := by simp
                      clear HPV HNC H6 HI6
                      go_quiet (fail)
                      go_wp2
                      exact ⟨⟨1, by omega, by go_num, HT.out _, HIN.out _⟩, by simp [intOf]; omega⟩
                    | succ p =>
                      have hpv := HPV.out p hkl
                      rw [← HZ.out, ← HA.out] at hpv
                      obtain ⟨hyc, v0⟩ := HNC.out p (by omega) _ HI6.out
                      obtain ⟨Y, hY⟩ : ∃ Y, Y = N[p]'(by omega) := ⟨_, rfl⟩
                      rw [← hY] at hpv hyc v0
                      obtain ⟨A0, hA0⟩ : ∃ A, A = oldN L1 Y := ⟨_, rfl⟩
                      rw [← hA0] at hpv
                      have K1 : Hid (∀ q : Up w6, Calls Try.prog 20 #[.pointer (some ⟨x, 0, none⟩), .int .i64 Y] q.p fun e w' => e = .returned (.int .i64 A0) ∧ Below q.p.heap.size q.p w') := fun q => hA0 ▸ poldness x m L1 Y q.p (H6.out.ls.below q.h) v0
                      have hway : decide (A0 < A) = false ∧ (A0 == A) = false ∨ decide (A0 < A) = false ∧ (A0 == A) = true ∧ decide (Z ≤ Y) = false := by
                        rcases hpv with h | ⟨h1, h2⟩
                        · exact Or.inl ⟨by rw [decide_eq_false_iff_not]; omega, by rw [beq_eq_false_iff_ne]; omega⟩
                        · exact Or.inr ⟨by rw [decide_eq_false_iff_not]; omega, by rw [beq_iff_eq]; omega, by rw [decide_eq_false_iff_not]; omega⟩
                      have hkw : IntKind.i64.wrap ((p : Int) + 1 - 1) = (p : Int) := by
                        have : (p : Int) + 1 - 1 = p := by omega
                        rw [this]
                        simp [IntKind.wrap, IntKind.bits, IntKind.signed]
                        omega
                      have q5 : decide ((0 : Int) < (p : Int) + 1) = true := by rw [decide_eq_true_eq]; omega
                      have l1 := Up.cell hyc
                      have l2 := Up.cell hgk6
                      have hne := Up.any w6
                      clear HPV HNC hpv hY hA0 HZ HA hyc
                      rcases hway with ⟨r1, r2⟩ | ⟨r1, r2, r3⟩
                      all_goals
                        refine wp_region_up (by kernel_rfl) (by kernel_rfl) ?_
                        repeat (go_big_quiet_step ((go_at_call 20; exact Up.call (K1.out _))))
                        refine wpQuiet_nil ?_
                        intro w17 hw'
                        obtain ⟨⟨_, hbw⟩, rfl⟩ := hw'
                        have h7 := H6.out.later hbw
                        have HI7 := hid (HI6.out.later hbw)
                        clear l1 l2 hne K1 hbw
                        go_wp2
                        exact ⟨⟨p + 1 + 1, by omega, by go_num, h7, HI7.out⟩, by simp [intOf]; omega⟩
            · obtain rfl : k = N.length := by omega
              have hqk : decide ((N.length : Int) < (N.length : Int)) = false := by simp
              have z3 : ((N.length : Int) == (n : Int)) = true := by simp [HNT.out]
              have HB := hid hT.bel
              clear hT hIN
              go_wp2_with fail
              go_ret
              exact ⟨rfl, HB.out⟩
theorem order_walk (a : Option Addr) (cap : Nat) (l : List Ac) (bg : Option Addr) (cg : Nat) (G : List Int) (i : Int) (w : World) (hc : ActsAt w a l) (hG : Ints w bg G) (hi : (Lit.int .i64 i).wf = true) :
    Calls Try.prog 4 #[.slice a l.length cap, .slice bg G.length cg, .int .i64 i] w fun e w' => e = .returned (.bool true) ∧ Below w.heap.size w w' := by
  by_cases h : l.length ≤ 80 ∧ G.length ≤ 80
  · exact order_in a cap l bg cg G i w h.1 h.2 hc hG hi
  · refine order_out a cap _ bg cg _ i w ?_
    simp only [decide_eq_true_eq, decide_eq_false_iff_not]
    omega
end Go.Proofs.Ytfmgmelgfnppkaa
