/-
  The contract of Order.
-/
import Derived.Test.YtfmgmelgfnppkaaQ1
namespace Go.Proofs.Ytfmgmelgfnppkaa
open Go.RowKit Go.Lib

section
variable {w w' : World} {m r : Nat} {L : List En} {lf : Int → Bool} {cnt : Nat}
theorem Rg.blocks (h : Rg w m r L lf cnt) (hm : w'.heap[m]? = w.heap[m]?) (hr : w'.heap[r]? = w.heap[r]?) : Rg w' m r L lf cnt := by
  obtain ⟨n, D, left, ⟨es, clock, since, seen, c0, h1, h2, h3, h4, h5, h6⟩, h7⟩ := h
  exact ⟨n, D, left, ⟨es, clock, since, seen, c0, hm.trans h1, h2, h3, h4, hr.trans h5, h6⟩, h7⟩
end
theorem lt_cmp {L : List En} {i j : Int} (h : lt L i j = true) : cmpO L i j < 0 := by
  rw [cmpO_lt]
  unfold lt at h
  cases hi : lk L i with
  | none => rw [hi] at h; simp at h
  | some x =>
    cases hj : lk L j with
    | none => rw [hi, hj] at h; simp at h
    | some y =>
      rw [hi, hj] at h
      simp only [Bool.or_eq_true, Bool.and_eq_true, decide_eq_true_eq] at h
      rw [oldN_some hi, oldN_some hj]
      have h1 := (lk_some hi).2
      have h2 := (lk_some hj).2
      omega
theorem as_wf (C : List Int) (h : ∀ x ∈ C, (Lit.int .i64 x).wf = true) : ∃ D : List Wf, D.map (·.1) = C := by
  induction C with
  | nil => exact ⟨[], rfl⟩
  | cons x C ih =>
    obtain ⟨D, hD⟩ := ih fun y hy => h y (by simp [hy])
    exact ⟨⟨x, h x (by simp)⟩ :: D, by simp [hD]⟩
theorem enc_iv (D : List Wf) : D.map encW = (D.map (·.1)).map iv := by simp [encW, iv]

set_option maxRecDepth 100000 in
set_option maxHeartbeats 4000000 in
theorem porder (t m : Nat) (L : List En) (a : Option Addr) (cap : Nat) (G : List Int) (w : World) (h : LsIs w t m L) (hG : Ints w a G) (hL : L.length < 1000000) (hGl : G.length < 1000000) :
    Calls Try.prog 17 #[.pointer (some ⟨t, 0, none⟩), .slice a G.length cap] w fun e w' => ∃ a' c' N, N = (ordL L G).map (·.i) ∧ e = .returned (.slice a' N.length c') ∧ Ints w' a' N ∧ Below w.heap.size w w' := by
  have hmm := @run_makeMap Try.prog
  have HLS : Hid (LsIs w t m L) := h
  have HIN : Hid (Ints w a G) := hG
  have HOK : Hid (Ok L) := h.ok
  have hlt := h.lt
  clear h hG
  go_enter Try.func17, Try.ntmps17
  go_wp2_with fail
  have hw1 : Below w.heap.size w ((w.alloc (.cells #[.pointer (some ⟨t, 0, none⟩)] 25)).alloc (.map #[] 0)) := bel_trans (below_alloc _ _) (below_alloc _ _) (Nat.le_refl _)
  have hS1 : Sd ((w.alloc (.cells #[.pointer (some ⟨t, 0, none⟩)] 25)).alloc (.map #[] 0)) (w.heap.size + 1) [] := by
    have := Sd.new (w.alloc (.cells #[.pointer (some ⟨t, 0, none⟩)] 25))
    rwa [World.size_alloc] at this
  have hB1 : RowAt ((w.alloc (.cells #[.pointer (some ⟨t, 0, none⟩)] 25)).alloc (.map #[] 0)) w.heap.size 25 [.pointer (some ⟨t, 0, none⟩)] := (RowAt.new w #[.pointer (some ⟨t, 0, none⟩)] 25).alloc _
  go_loopw [16] (fun s16 wr => ∃ i : Nat, i ≤ G.length ∧ s16 = .int .i64 i ∧ Sd wr (w.heap.size + 1) (G.take i) ∧ RowAt wr w.heap.size 25 [.pointer (some ⟨t, 0, none⟩)] ∧ Below w.heap.size w wr) (fun s16 _ => G.length - (intOf s16).toNat)
  case atStart => exact ⟨0, by omega, rfl, hS1, hB1, hw1⟩
  case round =>
    obtain ⟨i, hi, rfl, hS, hB, hb⟩ := hrel
    clear hS1 hB1 hw1
    by_cases hil : i < G.length
    · have hd : decide ((i : Int) < (G.length : Int)) = true := by simp; omega
      obtain ⟨b, off, rfl, hc, hwf⟩ := (HIN.out.later hb).get hil
      obtain ⟨x, hx⟩ : ∃ x, x = G[i] := ⟨_, rfl⟩
      rw [← hx] at hc hwf
      obtain ⟨w2, hrun, hS2, hb2⟩ := hS.store hwf (by simp; omega)
      have HT : Hid (G.take (i + 1) = G.take i ++ [x]) := by show _ = _; rw [hx, List.take_append_getElem hil]
      have HS2 : Hid (Sd w2 (w.heap.size + 1) (G.take i ++ [x])) := hS2
      have HB2 : Hid (RowAt w2 w.heap.size 25 [.pointer (some ⟨t, 0, none⟩)]) := hB.but hb2 (by omega)
      have HW2 : Hid (Below w.heap.size w w2) := hb.trans (hb2.below (by omega))
      clear hS2 hb2 hx hS hB hb
      go_wp2_with fail
      exact ⟨⟨i + 1, by omega, by go_num, by rw [HT.out]; exact HS2.out, HB2.out, HW2.out⟩, by simp [intOf]; omega⟩
    · obtain rfl : i = G.length := by omega
      have hd : decide ((G.length : Int) < (G.length : Int)) = false := by simp
      rw [List.take_length] at hS
      have hLs := HLS.out.below hb
      have hbc : wr.cell? ⟨w.heap.size, 0, none⟩ = some (.pointer (some ⟨t, 0, none⟩)) := by rw [hB.cell]; rfl
      have htc := hLs.c0
      have HMI : Hid (MapIs wr m L) := hLs.m
      have hsz := hb.size
      have hsl := hS.lt
      clear hLs hil hi
      go_wp2_with (at_range; refine wpList_range_rg rfl _ rfl m L rfl HMI.out hL ?_; intro w0 hrg0 hb0 hs0)
      go_frame
      obtain ⟨wo, rfl⟩ : ∃ wo, wo = wr := ⟨_, rfl⟩
      have HLT : Hid (t < w.heap.size ∧ m < w.heap.size) := hlt
      have HB0 : Hid (w.heap.size + 1 < wo.heap.size) := hsl
      have HSRT : Hid (Srt L) := HOK.out.srt
      have HCL : Hid (∀ lf, (cameL L (inG G) lf).length ≤ L.length) := fun lf => by unfold cameL; rw [List.length_map]; exact List.length_filter_le ..
      go_loopw [8] (fun s8 wq => ∃ (lf : Int → Bool) (cnt : Nat) (C : List Int), wq.ownsRow (wo.heap.size + 1) 3 1 s8 C.length (C.map iv) ∧ C.Perm (cameL L (inG G) lf) ∧ Rg wq m wo.heap.size L lf cnt ∧ RowAt wq w.heap.size 25 [.pointer (some ⟨t, 0, none⟩)] ∧ Sd wq (w.heap.size + 1) G ∧ Below w.heap.size w wq ∧ wo.heap.size + 1 ≤ wq.heap.size) (fun _ wq => wq.rangeLeft m wo.heap.size)
      case atStart => exact ⟨fun _ => true, _, [], ⟨rfl, Or.inl ⟨rfl, rfl⟩⟩, by rw [cameL_start (fun _ _ => rfl)], hrg0, hB.below hb0 (by omega), hS.block (hb0.block _ (by omega)), hb.trans (hb0.mono hsz), by omega⟩
      case round =>
        obtain ⟨lf, cnt, C, hown, hperm, hrg, hBq, hSq, hbq, hsq⟩ := hrel
        have HPM : Hid (C.Perm (cameL L (inG G) lf)) := hperm
        have hCl : C.length < 1000000 := by rw [hperm.length_eq]; exact Nat.lt_of_le_of_lt (HCL.out lf) hL
        clear hrg0 hb0 hs0 hB hS hb hbc htc hperm
        go_wp2_with (at_next; refine wpList_next_rg rfl _ rfl m wo.heap.size L lf cnt rfl hrg ?_ ?_)
        · intro hdn
          have hp : C.Perm ((L.filter (inG G)).map (·.i)) := by rw [← cameL_end hdn]; exact HPM.out
          have HC : Hid (C.Perm ((L.filter (inG G)).map (·.i))) := hp
          have hwf : ∀ x ∈ C, (Lit.int .i64 x).wf = true := fun x hx => by
            obtain ⟨y, hy, rfl⟩ := List.mem_map.1 (hp.mem_iff.1 hx)
            exact wf_rng (HOK.out.rng y (List.mem_filter.1 hy).1)
          have HWF : Hid (∀ x ∈ C, (Lit.int .i64 x).wf = true) := hwf
          have hLq := HLS.out.below hbq
          have HBQ : Hid (Below w.heap.size w wr) := hbq
          rcases hown.2 with ⟨rfl, hC0⟩ | ⟨g, cp, cur, rfl, hg, hgg, -, -, -, -⟩
          · have hCn : C = [] := List.eq_nil_of_length_eq_zero hC0
            subst hCn
            have HE : Hid ([] = (ordL L G).map (·.i)) := ord_of_sorted HOK.out G HC.out List.Pairwise.nil
            clear hwf hp hown hdn hrg hBq hSq hbq hsq hLq HPM HC HWF
            go_wp2_with fail
            refine (psort0 none 0 _ _).mono ?_
            rintro e w5 ⟨rfl, rfl⟩
            go_wp2_with fail
            go_ret
            exact ⟨none, 0, [], HE.out, rfl, ⟨fun j hj => by simp at hj, fun x hx => by simp at hx⟩, HBQ.out⟩
          · obtain ⟨D, hD⟩ := as_wf C hwf
            have hDl : D.length = C.length := by rw [← hD, List.length_map]
            have hgl := lt_of_block hgg
            have hps := psort t m L w.heap.size g cp D wr hLq hBq (by have := HLT.out; have := HB0.out; omega) (by have := HLT.out; have := HB0.out; omega) (by have := HB0.out; omega) hgl
              (fun j hj => ⟨by rw [hown.cellAt j (by omega), enc_iv, hD], frozen_of_row wr g j _ 3 hgg⟩) (by omega)
            rw [hDl] at hps
            have HPS : Hid (Calls Try.prog 32 #[.slice (some ⟨g, 0, none⟩) C.length cp, .func (.func 33) #[] #[.pointer (some ⟨w.heap.size, 0, none⟩)]] wr _) := hps
            have HDC : Hid (D.map (·.1) = C) := hD
            have HGL : Hid (w.heap.size ≤ g ∧ g < wr.heap.size) := ⟨by have := HB0.out; omega, hgl⟩
            clear hwf hp hown hdn hrg hBq hSq hbq hsq hLq HPM hps hgg hgl hg hD hDl
            go_wp2_with fail
            refine HPS.out.mono ?_
            rintro e w5 ⟨rfl, C5, q1, q2, q3, q4⟩
            have HE : Hid (C5.map (·.1) = (ordL L G).map (·.i)) := by
              refine ord_of_sorted HOK.out G ((q1.map _).trans (HDC.out ▸ HC.out)) ?_
              rw [List.pairwise_map]
              exact q2.imp fun {x y} hxy => by
                cases hq : lt L y.1 x.1
                · rfl
                · have := lt_cmp hq; omega
            have HL5 : Hid ((C5.map (·.1)).length = C.length) := by show _ = _; rw [← HDC.out, List.length_map, List.length_map, q1.length_eq]
            have HI5 : Hid (Ints w5 (some ⟨g, 0, none⟩) (C5.map (·.1))) := by
              refine ⟨fun j hj => ⟨g, 0, rfl, ?_⟩, fun x hx => ?_⟩
              · have hj' : j < C5.length := by simpa using hj
                rw [Nat.zero_add, q3 j hj', enc_iv]
                simp [iv, hj']
              · obtain ⟨y, -, rfl⟩ := List.mem_map.1 hx
                exact y.2
            have HB5 : Hid (Below w.heap.size w w5) := HBQ.out.trans (q4.below HGL.out.1 HBQ.out.size)
            clear q1 q2 q3 q4
            go_wp2_with fail
            go_ret
            exact ⟨some ⟨g, 0, none⟩, cp, C5.map (·.1), HE.out, by rw [HL5.out]; rfl, HI5.out, HB5.out⟩
        · intro xi xg xa w1 cnt1 hx hl hrg1 hlt1 hg1 hs1 hen
          have hkeep : ∀ k, k < wr.heap.size → k ≠ wo.heap.size → w1.heap[k]? = wr.heap[k]? := fun k hk hne => hg1.block k hk (by intro e; injection e with e; exact hne e)
          have hown1 : w1.ownsRow (wo.heap.size + 1) 3 1 u8 C.length (C.map iv) := own_turn hown fun k cur hk hc => (hkeep k (lt_of_block hc) (by omega)).trans hc
          have hB1 : RowAt w1 w.heap.size 25 [.pointer (some ⟨t, 0, none⟩)] := by
            unfold RowAt
            rw [hkeep _ hBq.lt (by have := HB0.out; omega)]; exact hBq
          have hS1 : Sd w1 (w.heap.size + 1) G := hSq.block (hkeep _ hSq.lt (by have := HB0.out; omega))
          have hb1 : Below w.heap.size w w1 := hbq.grown hg1 hbq.size (fun k hk => by injection hk with hk; have := HB0.out; omega)
          have hz1 : wo.heap.size + 1 ≤ w1.heap.size := by omega
          have hn0 : w.heap.size + 1 < w1.heap.size := by have := HB0.out; omega
          have hwg : (Lit.int .i64 xg).wf = true := by have := (HOK.out.rng _ hx).2.1; exact WalkArith.wf_i64 (by simp at this; omega)
          have HX : Hid ((⟨xi, xg, xa⟩ : En) ∈ L) := hx
          have HLF : Hid (lf xi = true) := hl
          have HM : Hid (cnt1 < cnt) := hlt1
          have HR : Hid (Rg wr m wo.heap.size L lf cnt) := hrg
          have hst := cameL_step HSRT.out (inG G) hx hl HPM.out
          have hb2 := below_alloc w1 (.cells #[.int .i64 xg, .int .i64 xa] 56)
          have hlk := (hS1.block (hb2.block _ hS1.lt)).look hwg
          have hb3 := bel_trans hb2 (below_alloc _ (.cells #[] 58)) (Nat.le_refl _)
          have hown3 := own_below hown1 hb3
          have HROW3 : Hid (RowAt ((w1.alloc (.cells #[.int .i64 xg, .int .i64 xa] 56)).alloc (.cells #[] 58)) w.heap.size 25 [.pointer (some ⟨t, 0, none⟩)]) := hB1.below hb3 hB1.lt
          have HS3 : Hid (Sd ((w1.alloc (.cells #[.int .i64 xg, .int .i64 xa] 56)).alloc (.cells #[] 58)) (w.heap.size + 1) G) := hS1.block (hb3.block _ hS1.lt)
          have HB3 : Hid (Below w.heap.size w ((w1.alloc (.cells #[.int .i64 xg, .int .i64 xa] 56)).alloc (.cells #[] 58))) := bel_trans hb1 hb3 (Nat.le_refl _)
          have HG3 : Hid (Rg ((w1.alloc (.cells #[.int .i64 xg, .int .i64 xa] 56)).alloc (.cells #[] 58)) m wo.heap.size L (less lf xi) cnt1) := hrg1.below hb3
          have HML : Hid (m < wo.heap.size + 1 ∧ wo.heap.size < wo.heap.size + 1) := ⟨by have := HLT.out; have := HB0.out; omega, by omega⟩
          have HZ1 : Hid (wo.heap.size + 1 ≤ w1.heap.size) := hz1
          have HSG : Hid (inG G ⟨xi, xg, xa⟩ = G.any fun g => g == xg) := rfl
          cases hbb : (G.any fun g => g == xg) with
          | false =>
            rw [hbb] at hlk
            have hin : inG G ⟨xi, xg, xa⟩ = false := HSG.out.trans hbb
            rw [hin] at hst
            have HST : Hid (C.Perm (cameL L (inG G) (less lf xi))) := hst
            clear hkeep hown1 hB1 hS1 hb1 hg1 hrg1 hrg hx hl hlt1 hst hb2 hb3 hbb hin hown hBq hSq hbq hsq HPM hwg
            go_wp2
            go_roundw
            case rel => exact ⟨less lf xi, cnt1, C, hown3, HST.out, HG3.out, HROW3.out, HS3.out, HB3.out, by simp; omega⟩
            case measure => rw [HG3.out.left_eq, HR.out.left_eq]; exact HM.out
          | true =>
            rw [hbb] at hlk
            have hin : inG G ⟨xi, xg, xa⟩ = true := HSG.out.trans hbb
            rw [hin] at hst
            have HST : Hid ((C ++ [xi]).Perm (cameL L (inG G) (less lf xi))) := hst
            clear hkeep hown1 hB1 hS1 hb1 hg1 hrg1 hrg hx hl hlt1 hst hb2 hb3 hbb hin hown hBq hSq hbq hsq HPM hwg
            go_wp2_with (at_builtin; refine app_int (wo.heap.size + 1) C ((w1.alloc (.cells #[.int .i64 xg, .int .i64 xa] 56)).alloc (.cells #[] 58)) rfl _ _ rfl u8 rfl hown3 xi _ (by simp [hs1]) rfl (by omega) (by simp; omega) ?_; intro v5 w5 hown5 hb5)
            go_roundw
            case rel =>
              refine ⟨less lf xi, cnt1, C ++ [xi], hown5, HST.out, HG3.out.blocks (hb5.block _ HML.out.1) (hb5.block _ HML.out.2), HROW3.out.below hb5 (by have := HB0.out; omega), HS3.out.block (hb5.block _ (by have := HB0.out; omega)), HB3.out.trans (hb5.mono (by have := HB0.out; omega)), ?_⟩
              have := hb5.size
              simp at this
              have := HZ1.out
              omega
            case measure => rw [(HG3.out.blocks (hb5.block _ HML.out.1) (hb5.block _ HML.out.2)).left_eq, HR.out.left_eq]; exact HM.out
end Go.Proofs.Ytfmgmelgfnppkaa
