/-
  The law PoolOnce, walked: for every input it answers true.
-/
import Derived.Test.YtijoocoacaogoaaDoorLWhole
namespace Go.Proofs.YtijoocoacaogoaaDoor
open Go.RowKit

/-- The pool, and the law's own row of who has what, that tells the same. -/
structure Own (B : Nat) (w0 w : World) (bp bm bw br : Nat) (bs : List Bool) : Prop where
  pl : Pl B w0 w bp bm bw bs
  row : BoolsAt w br bs
  lo : B ≤ br
  n0 : bp ≠ br
  n1 : bm ≠ br
  n2 : bw ≠ br
theorem Own.drewN {B : Nat} {w0 w : World} {bp bm bw br : Nat} {bs : List Bool} (h : Own B w0 w bp bm bw br bs) (n : Nat) : Own B w0 (w.drewN n) bp bm bw br bs :=
  ⟨h.pl.drewN n, h.row.drewN n, h.lo, h.n0, h.n1, h.n2⟩
/-- A half-way house: the pool's bits and the row's. -/
structure Own2 (B : Nat) (w0 w : World) (bp bm bw br : Nat) (bs cs : List Bool) : Prop where
  pl : Pl B w0 w bp bm bw bs
  row : BoolsAt w br cs
  lo : B ≤ br
  n0 : bp ≠ br
  n1 : bm ≠ br
  n2 : bw ≠ br
theorem Own.half {B : Nat} {w0 w w' : World} {bp bm bw br : Nat} {bs bs' : List Bool} (h : Own B w0 w bp bm bw br bs) (hp : PoolIs w' bp bm bw bs') (hb : But bw w w') : Own2 B w0 w' bp bm bw br bs' bs :=
  ⟨h.pl.turn hp hb, h.row.but hb (Ne.symm h.n2), h.lo, h.n0, h.n1, h.n2⟩
theorem Own2.store {B : Nat} {w0 w : World} {bp bm bw br : Nat} {bs cs : List Bool} (h : Own2 B w0 w bp bm bw br bs cs) (i : Nat) (on : Bool) (he : cs.set i on = bs) :
    Own B w0 (w.setCell ⟨br, i, none⟩ (.bool on)) bp bm bw br bs := by
  have hb : But br w (w.setCell ⟨br, i, none⟩ (.bool on)) := But.setCell _ _ _ _
  refine ⟨⟨h.pl.pool.but hb h.n0 h.n1 h.n2, h.pl.bel.trans (hb.below h.lo), h.pl.tab.but hb ?_, h.pl.lo, h.pl.pos⟩, ?_, h.lo, h.n0, h.n1, h.n2⟩
  · have := h.lo; have := h.pl.pos; omega
  · rw [← he]; exact h.row.set i on
theorem Own2.same {B : Nat} {w0 w : World} {bp bm bw br : Nat} {bs : List Bool} (h : Own2 B w0 w bp bm bw br bs bs) : Own B w0 w bp bm bw br bs :=
  ⟨h.pl, h.row, h.lo, h.n0, h.n1, h.n2⟩

theorem room_free {bs : List Bool} {n j : Nat} (h : IsRoom bs n j) : j + n ≤ bs.length ∧ ∀ k, j ≤ k → k < j + n → bs.getD k false = false := by
  rcases h with ⟨h, -⟩ | ⟨i, hi, h1, h2, -⟩
  · omega
  · obtain rfl : j = i := by omega
    exact ⟨h1, h2⟩

theorem once_out (x0 : Int) (a : Option Addr) (cap m : Nat) (w : World) (hT : Tab w) (hm : m ≤ 9223372036854775807) (h : x0 < 0 ∨ 200 < x0 ∨ 80 < m) :
    Calls Tryd.prog 4 #[.int .i64 x0, .slice a m cap] w fun e w' => e = .returned (.bool true) ∧ Below w.heap.size w w' := by
  by_cases h1 : x0 < 0
  · clear h
    go_enter Tryd.func4, Tryd.ntmps4
    go_wp2_with (go_at_call 9; refine (works_any _ hT).mono ?_; rintro e w1 ⟨rfl, hb⟩)
    go_ret
    exact ⟨rfl, hb⟩
  · by_cases h2 : 200 < x0
    · clear h
      go_enter Tryd.func4, Tryd.ntmps4
      go_wp2_with (go_at_call 9; refine (works_any _ hT).mono ?_; rintro e w1 ⟨rfl, hb⟩)
      go_ret
      exact ⟨rfl, hb⟩
    · have h3 : 80 < m := by omega
      clear h
      go_enter Tryd.func4, Tryd.ntmps4
      go_wp2_with (go_at_call 9; refine (works_any _ hT).mono ?_; rintro e w1 ⟨rfl, hb⟩)
      go_ret
      exact ⟨rfl, hb⟩

set_option maxRecDepth 100000 in
set_option maxHeartbeats 8000000 in
theorem once_in (n : Nat) (a : Option Addr) (cap : Nat) (l : List (Int × Int)) (w : World) (hT : Tab w) (hn : n ≤ 200) (hl : l.length ≤ 80) (hc : ActsAt w a l) (hf : ActsFit l) :
    Calls Tryd.prog 4 #[.int .i64 n, .slice a l.length cap] w fun e w' => e = .returned (.bool true) ∧ Below w.heap.size w w' := by
  have hd1 : decide ((80 : Int) < (l.length : Int)) = false := by simp; omega
  have hd2 : decide ((200 : Int) < (n : Int)) = false := by simp; omega
  have hd3 : decide ((n : Int) < 0) = false := by simp
  go_enter Tryd.func4, Tryd.ntmps4
  go_wp2_with fail
  refine (works_any _ hT).mono ?_
  rintro e w1 ⟨rfl, hb⟩
  have hT1 := hT.below hb hT.pos
  go_wp2_with fail
  refine (newL n n w w1 hT1 hb hT.pos (Or.inr (Or.inl ⟨rfl, by omega⟩))).mono ?_
  rintro e w2 ⟨bp, bm, bw, rfl, hp⟩
  clear hT1 hb hT
  go_wp2_with (at_make; refine wpList_make_row _ rfl (.tmp 32) (.tmp 32) 35 rfl 4 (.bool false) 1 Tryd.underlying35 info4 rfl .i64 .i64 _ _ n rfl rfl rfl rfl (by omega) (by omega) ?_; intro w3 hr hz hb3)
  obtain ⟨br, hbr⟩ : ∃ br, br = w2.heap.size := ⟨_, rfl⟩
  have ho : Own w.heap.size w w3 bp bm bw br (List.replicate n false) := by
    have hlt := hp.pool.lt
    refine ⟨⟨hp.pool.below hb3 hlt.1 hlt.2.1 hlt.2.2.1, hp.bel.trans (hb3.mono hp.bel.size), hp.tab.below hb3 hp.tab.pos, hp.lo, hp.pos⟩, ?_, by rw [hbr]; exact hp.bel.size, by omega, by omega, by omega⟩
    show RowAt _ _ _ _
    rw [hbr]
    simpa using hr
  rw [← hbr]
  clear hbr hr hz hb3 hp
  go_loopw [8, 9] (fun cv i wr => ∃ j : Nat, j ≤ l.length ∧ i = .int .i64 j ∧ ∃ bs : List Bool, Hid (bs.length = n) ∧ Own w.heap.size w wr bp bm bw br bs ∧ ∃ C : Nat, cv = .int .i64 C ∧ C ≤ n ∧ Hid (C = bs.count true)) (fun _ i _ => l.length - (intOf i).toNat)
  case atStart => exact ⟨0, by omega, rfl, _, by show _ = _; simp, ho, 0, rfl, by omega, by show _ = _; rw [List.count_replicate]; rfl⟩
  case round =>
    clear ho
    obtain ⟨j, hj, rfl, bs, HBS, ho, C, rfl, hC, HC⟩ := hrel
    by_cases hlt : j < l.length
    · have hcr := hc.below ho.pl.bel
      obtain ⟨b, off, rfl, h1, h2⟩ := hcr j hlt
      obtain ⟨f1, f2⟩ := hf j hlt
      obtain ⟨K, hK⟩ : ∃ K, K = l[j].1 := ⟨_, rfl⟩
      obtain ⟨Nn, hN⟩ : ∃ Nn, Nn = l[j].2 := ⟨_, rfl⟩
      rw [← hK] at h1 f1
      rw [← hN] at h2 f2
      have HN : Hid (Nn = l[j].2) := hN
      clear hK hN f1
      have HF : Hid (bs.count false + bs.count true = bs.length) := cnt_false bs
      by_cases q0 : K.tmod 2 = 0
      · have hb0 : (K.tmod 2 == 0) = true := by simp [q0]
        clear q0
        rcases runOf_cases bs 1 with ⟨c, -⟩ | ⟨m, c1, -, c2, c3⟩ | ⟨m, t, c1, -, c2, c4, c3⟩
        · omega
        · obtain rfl : m = 1 := by omega
          have e0 := full_free c2
          obtain rfl : C = n := by have := HF.out; have := HBS.out; have := HC.out; omega
          have HRn : Hid (runOf bs 1 = (-1, 3, bs)) := c3
          have HE : Hid (bs.count false = 0) := e0
          have hcc : decide ((C : Int) < (C : Int)) = false := by simp
          have hc0 : ((0 : Int) != (C : Int) - (C : Int)) = false := by simp
          clear c1 c2 c3 e0
          go_wp2_with fail
          refine (ptake bp bm bw bs _ ho.pl.pool ho.pl.tab).mono ?_
          rintro e w4 ⟨rfl, h4, hb4⟩
          rw [HRn.out] at h4 ⊢
          have ho4 := (ho.half h4 hb4).same
          clear h4 hb4 ho HRn h1 h2 hcr
          go_wp2_with fail
          refine (pfree bp bm bw bs _ ho4.pl.pool).mono ?_
          rintro e w5 ⟨rfl, nn, rfl⟩
          rw [HE.out]
          clear HE
          go_wp2_with fail
          go_roundw
          case rel => exact ⟨j + 1, by omega, by go_num, bs, HBS, ho4.drewN nn, C, rfl, hC, HC⟩
          case measure => simp [intOf]; omega
        · obtain rfl : m = 1 := by omega
          have htn : t < n := by have := HBS.out; omega
          have htl : t < bs.length := by omega
          have hcnt := fill_count bs t 1 c4 (room_free c2).2
          have hbt : bs[t] = false := by
            have := (room_free c2).2 t (Nat.le_refl _) (by omega)
            simpa [htl] using this
          have hfc := cnt_false (fill bs t 1)
          rw [fill_len] at hfc
          have hlen' : Hid ((fill bs t 1).length = n) := by show _ = _; rw [fill_len]; exact HBS.out
          have hCn : C < n := by
            have h1 := HC.out; have h2 := HBS.out
            have : (fill bs t 1).count true ≤ (fill bs t 1).length := List.count_le_length
            rw [fill_len] at this
            omega
          have HFf : Hid ((fill bs t 1).count false = n - (C + 1)) := by
            have h1 := HC.out; have h2 := HBS.out
            show _ = _
            omega
          have HC' : Hid (C + 1 = (fill bs t 1).count true) := by show _ = _; rw [hcnt, ← HC.out]
          have HRn : Hid (runOf bs 1 = ((t : Int), 0, fill bs t 1)) := c3
          obtain ⟨fs, hfs⟩ : ∃ fs, fs = fill bs t 1 := ⟨_, rfl⟩
          have HFS : Hid (bs.set t true = fs) := by show _ = _; rw [hfs]; rfl
          rw [← hfs] at hlen' HFf HC' HRn
          have hx1 : decide ((C : Int) < (n : Int)) = true := by simp; omega
          have hx2 : (((n - (C + 1) : Nat) : Int) != (n : Int) - ((C : Int) + 1)) = false := by simp; omega
          have hx3 : decide ((n : Int) ≤ (t : Int)) = false := by simp; omega
          clear c1 c2 c3 c4 hcnt hfc hfs
          go_wp2_with fail
          refine (ptake bp bm bw bs _ ho.pl.pool ho.pl.tab).mono ?_
          rintro e w4 ⟨rfl, h4, hb4⟩
          rw [HRn.out] at h4 ⊢
          have ho4 := ho.half h4 hb4
          have hct : w4.cell? ⟨br, t, none⟩ = some (.bool false) := by rw [ho4.row.cell t htl, hbt]
          have hfz : w4.frozen? ⟨br, t, none⟩ = false := RowAt.frozen ho4.row t
          have hleb : bs.length ≤ 65536 := ho.pl.le
          have ho5 := ho4.store t true HFS.out
          have HBL := HBS.out
          clear h4 hb4 ho HRn h1 h2 hcr ho4 hbt HFS
          go_wp2_with fail
          refine (pfree bp bm bw fs _ ho5.pl.pool).mono ?_
          rintro e w5 ⟨rfl, nn, rfl⟩
          rw [HFf.out]
          clear HFf
          go_wp2_with fail
          go_roundw
          case rel => exact ⟨j + 1, by omega, by go_num, fs, hlen', ho5.drewN nn, C + 1, by go_num, by omega, HC'⟩
          case measure => simp [intOf]; omega
      · have hb0 : (K.tmod 2 == 0) = false := by simp [q0]
        clear q0
        have HBL := HBS.out
        by_cases hin : 0 ≤ Nn ∧ Nn < n
        · obtain ⟨t, rfl⟩ := Int.eq_ofNat_of_zero_le hin.1
          have htn : t < n := by omega
          have htl : t < bs.length := by omega
          have hbg : bget bs t = bs[t] := by rw [bget_in]; simp [htl]
          have hct0 := ho.row.cell t htl
          cases hbt : bs[t]
          · have HG : Hid (giveOf bs t = (2, bs)) := by
              show _ = _
              unfold giveOf; rw [if_pos (by omega), hbg, hbt]; rfl
            rw [hbt] at hct0
            have HBT : Hid (bs[t] = false) := hbt
            have HFf : Hid (bs.count false = n - C) := by
              have h1 := HC.out; have h2 := HF.out
              show _ = _
              omega
            have hx2 : (((n - C : Nat) : Int) != (n : Int) - (C : Int)) = false := by simp; omega
            clear hbt hbg hin
            go_wp2_with fail
            refine (pgive bp bm bw bs t _ ho.pl.pool).mono ?_
            rintro e w4 ⟨rfl, h4, hb4⟩
            rw [HG.out] at h4 ⊢
            have ho4 := (ho.half h4 hb4).same
            have hct : w4.cell? ⟨br, t, none⟩ = some (.bool false) := by
              rw [ho4.row.cell t htl, HBT.out]
            obtain ⟨h14, h24⟩ := (hc.below ho4.pl.bel).get j hlt
            rw [← HN.out] at h24
            clear h4 hb4 ho HG h1 h2 hcr h14 hct0
            go_wp2_with fail
            refine (pfree bp bm bw bs _ ho4.pl.pool).mono ?_
            rintro e w5 ⟨rfl, nn, rfl⟩
            rw [HFf.out]
            clear HFf
            go_wp2_with fail
            go_roundw
            case rel => exact ⟨j + 1, by omega, by go_num, bs, HBS, ho4.drewN nn, C, rfl, hC, HC⟩
            case measure => simp [intOf]; omega
          · have HG : Hid (giveOf bs t = (0, bs.set t false)) := by
              show _ = _
              unfold giveOf; rw [if_pos (by omega), hbg, hbt]; simp [bset]
            have HBT : Hid (bs[t] = true) := hbt
            have hg := gone_count htl (show bs.getD t false = true by simp [htl, hbt])
            have hcf2 := cnt_false (bs.set t false)
            have hc1 : 1 ≤ C := by
              have h1 := HC.out
              have : true ∈ bs := by rw [← hbt]; exact List.getElem_mem htl
              have := List.count_pos_iff.2 this
              omega
            rw [List.length_set] at hcf2
            obtain ⟨fs, hfs⟩ : ∃ fs, fs = bs.set t false := ⟨_, rfl⟩
            have HFS : Hid (bs.set t false = fs) := hfs.symm
            rw [← hfs] at hg hcf2 HG
            have HFf : Hid (fs.count false = n - (C - 1)) := by
              have h1 := HC.out; have h2 := HF.out
              show _ = _
              omega
            have HC' : Hid (C - 1 = fs.count true) := by
              have h1 := HC.out; have h2 := HF.out
              show _ = _
              omega
            have hlen' : Hid (fs.length = n) := by show _ = _; rw [hfs, List.length_set]; exact HBL
            have hx2 : (((n - (C - 1) : Nat) : Int) != (n : Int) - ((C : Int) - 1)) = false := by simp; omega
            have hleb : bs.length ≤ 65536 := ho.pl.le
            clear hbt hbg hin hfs hg hcf2 hct0
            go_wp2_with fail
            refine (pgive bp bm bw bs t _ ho.pl.pool).mono ?_
            rintro e w4 ⟨rfl, h4, hb4⟩
            rw [HG.out] at h4 ⊢
            have ho4 := ho.half h4 hb4
            have hct : w4.cell? ⟨br, t, none⟩ = some (.bool true) := by rw [ho4.row.cell t htl, HBT.out]
            have hfz : w4.frozen? ⟨br, t, none⟩ = false := RowAt.frozen ho4.row t
            obtain ⟨h14, h24⟩ := (hc.below ho4.pl.bel).get j hlt
            rw [← HN.out] at h24
            have ho5 := ho4.store t false HFS.out
            clear h4 hb4 ho HG h1 h2 hcr h14 ho4 HFS HBT
            go_wp2_with fail
            refine (pfree bp bm bw fs _ ho5.pl.pool).mono ?_
            rintro e w5 ⟨rfl, nn, rfl⟩
            rw [HFf.out]
            clear HFf
            go_wp2_with fail
            go_roundw
            case rel => exact ⟨j + 1, by omega, by go_num, fs, hlen', ho5.drewN nn, C - 1, by go_num, by omega, HC'⟩
            case measure => simp [intOf]; omega
        · have HG : Hid (giveOf bs Nn = (1, bs)) := by
            show _ = _
            unfold giveOf; rw [if_neg (by omega)]
          have HFf : Hid (bs.count false = n - C) := by
            have h1 := HC.out; have h2 := HF.out
            show _ = _
            omega
          have hx2 : (((n - C : Nat) : Int) != (n : Int) - (C : Int)) = false := by simp; omega
          by_cases h0 : Nn < 0
          · clear hin
            go_wp2_with fail
            refine (pgive bp bm bw bs Nn _ ho.pl.pool).mono ?_
            rintro e w4 ⟨rfl, h4, hb4⟩
            rw [HG.out] at h4 ⊢
            have ho4 := (ho.half h4 hb4).same
            obtain ⟨h14, h24⟩ := (hc.below ho4.pl.bel).get j hlt
            rw [← HN.out] at h24
            clear h4 hb4 ho HG h1 h2 hcr h14
            go_wp2_with fail
            refine (pfree bp bm bw bs _ ho4.pl.pool).mono ?_
            rintro e w5 ⟨rfl, nn, rfl⟩
            rw [HFf.out]
            clear HFf
            go_wp2_with fail
            go_roundw
            case rel => exact ⟨j + 1, by omega, by go_num, bs, HBS, ho4.drewN nn, C, rfl, hC, HC⟩
            case measure => simp [intOf]; omega
          · have h0' : 0 ≤ Nn := by omega
            have h0n : (n : Int) ≤ Nn := by omega
            clear hin h0
            go_wp2_with fail
            refine (pgive bp bm bw bs Nn _ ho.pl.pool).mono ?_
            rintro e w4 ⟨rfl, h4, hb4⟩
            rw [HG.out] at h4 ⊢
            have ho4 := (ho.half h4 hb4).same
            obtain ⟨h14, h24⟩ := (hc.below ho4.pl.bel).get j hlt
            rw [← HN.out] at h24
            clear h4 hb4 ho HG h1 h2 hcr h14
            go_wp2_with fail
            refine (pfree bp bm bw bs _ ho4.pl.pool).mono ?_
            rintro e w5 ⟨rfl, nn, rfl⟩
            rw [HFf.out]
            clear HFf
            go_wp2_with fail
            go_roundw
            case rel => exact ⟨j + 1, by omega, by go_num, bs, HBS, ho4.drewN nn, C, rfl, hC, HC⟩
            case measure => simp [intOf]; omega
    · clear hc hf
      have HBL := HBS.out
      go_wp2
      go_loopw [14] (fun i wr => ∃ k : Nat, k ≤ n ∧ i = .int .i64 k ∧ Own w.heap.size w wr bp bm bw br bs) (fun i _ => n - (intOf i).toNat)
      case atStart => exact ⟨0, by omega, rfl, ho⟩
      case round =>
        clear ho
        obtain ⟨k, hk, rfl, ho⟩ := hrel
        by_cases hkn : k < n
        · have hkl : k < bs.length := by omega
          have hck := ho.row.cell k hkl
          have HP : Hid (∀ w, PoolIs w bp bm bw bs → Calls Tryd.prog 20 #[.pointer (some ⟨bp, 0, none⟩), .int .i64 k] w fun e w' => e = .returned (.bool bs[k]) ∧ w' = w) := fun w h => by
            have := ptaken bp bm bw bs k w h
            rw [bget_in, show bs.getD k false = bs[k] from by simp [hkl]] at this
            exact this
          have hbb : (bs[k] != bs[k]) = false := by simp
          have hpp := ho.pl.pool
          go_wp2
          go_quiet ((go_at_call 20; exact (HP.out _ (hpp.drewN _)).mono fun e w' h => ⟨h.1, _, h.2⟩))
          go_wp2
          go_roundw
          case rel => exact ⟨k + 1, by omega, by go_num, ho.drewN _⟩
          case measure => simp [intOf]; omega
        · have HB : Hid (Below w.heap.size w wr) := ho.pl.bel
          clear ho
          go_wp2
          go_ret
          exact ⟨rfl, HB.out⟩

theorem once_walk (x0 : Int) (a1 : Option Addr) (cap1 : Nat) (l1 : List (Int × Int)) (w : World) (hT : Tab w) (_ : -9223372036854775808 ≤ x0 ∧ x0 ≤ 9223372036854775807) (t1 : ActsAt w a1 l1) (i1 : ActsFit l1) (n1 : l1.length * 16 ≤ 140737488351232) (_ : a1 = none → cap1 = 0) :
    Calls Tryd.prog 4 #[.int .i64 x0, .slice a1 l1.length cap1] w fun e w' => e = .returned (.bool true) ∧ Below w.heap.size w w' := by
  by_cases h : x0 < 0 ∨ 200 < x0 ∨ 80 < l1.length
  · exact once_out x0 a1 cap1 _ w hT (by omega) h
  · obtain ⟨n, rfl⟩ := Int.eq_ofNat_of_zero_le (show 0 ≤ x0 by omega)
    exact once_in n a1 cap1 l1 w hT (by omega) (by omega) t1 i1

end Go.Proofs.YtijoocoacaogoaaDoor
