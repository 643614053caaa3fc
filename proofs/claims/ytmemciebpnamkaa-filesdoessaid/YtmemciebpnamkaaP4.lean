/-
  Contracts of files.Write, Read, New.
-/
import Derived.Test.YtmemciebpnamkaaP3
import Derived.RegionTactic
import Derived.ChangeAlike
import Derived.BigRegion
namespace Go.Proofs.Ytmemciebpnamkaa
open Go.RowKit

theorem text_size (T : List UInt8) : (⟨T.toArray⟩ : ByteArray).size = T.length := by simp [ByteArray.size]
theorem size51 : (Try.prog.info? 51).map (·.size) = some 16 := by kernel_rfl
theorem size5 : (Try.prog.info? 5).map (·.size) = some 1 := by kernel_rfl
theorem size51_of {T : List UInt8} (hT : T.length = 16) : (Try.prog.info? 51).map (·.size) = some (bc T).length := by rw [size51, bc_length, hT]
theorem splice_whole {T : List UInt8} {z : Value} (hT : T.length = 16) : splice (List.replicate 16 z) 0 (bc T) = bc T := by
  simp [splice, bc_length, hT]
theorem range_row {w : World} {b : Nat} {t : TypeId} {T : List UInt8} (h : RowAt w b t (bc T)) : w.rangeAt b 0 (bc T) := fun j v hv => by
  rw [Nat.zero_add, h.cell]; exact hv

theorem but_setRow (w : World) (g : Nat) (cs : Array Value) : But g w (w.setRow g cs) := ⟨rfl, rfl, rfl, by simp [World.setRow], fun k hk => setRow_other w g k cs hk⟩
/-- 'copy(dst, text)', text a string, into a row that is known whole. -/
theorem wpList_copy_text {P : Program} {w : World} {ops : Array Oper} {rest : List Oper} {o : Oper} {a : Act} {Q : Exit → Act → World → Prop} (hgd : o.guard = none) (d s : Operand) (dT sT : TypeId)
    (ho : o.op = .call { callee := .builtin .copy, args := #[d, s], argTypes := #[dT, sT] }) (elem : TypeId) (hu : P.underlying dT = some (.slice elem)) (hsz : (P.info? elem).map (·.size) = some 1)
    (g off dLen dCap : Nat) (T : List UInt8) (hd : a.eval d = .slice (some ⟨g, off, none⟩) dLen dCap) (hs : a.eval s = .string ⟨T.toArray⟩) (hTl : T.length = dLen)
    (cur : List Value) (t : TypeId) (hg : RowAt w g t cur) (hfit : off + T.length ≤ cur.length)
    (h : ∀ w', Hid (RowAt w' g t (splice cur off (bc T))) → But g w w' → wpList P ops Q rest (a.put o.dst (goInt T.length)) w') :
    wpList P ops Q (o :: rest) a w := by
  refine wpList_plain hgd fun K hK => ?_
  have hrun : (Builtin.copy_ #[dT, sT] o.type #[.slice (some ⟨g, off, none⟩) dLen dCap, .string ⟨T.toArray⟩]).run P w =
      .ok (goInt T.length) (w.setRow g (cur.take off ++ bc T ++ cur.drop (off + (bc T).length)).toArray) := by
    have hst := run_storeCells_at P g off t (bc T) 0 cur.toArray w hg (by simpa [bc] using hfit) (bc_one T)
    have hex : ((⟨T.toArray⟩ : ByteArray).extract 0 dLen).data.map (fun b => Value.int .u8 (b.toNat : Int)) = (bc T).toArray := by
      subst hTl
      simp [ByteArray.data_extract, bc]
      intro a _
      rfl
    have hsize : (⟨T.toArray⟩ : ByteArray).size = T.length := by simp [ByteArray.size]
    cases hq : P.info? elem with
    | none => simp [hq] at hsz
    | some i =>
      have hmin : Nat.min dLen dLen = dLen := Nat.min_self _
      have hst' : (storeCells ⟨g, off, none⟩ (bc T)).run P w = .ok () (w.setRow g (cur.take off ++ bc T ++ cur.drop (off + (bc T).length)).toArray) := by simpa using hst
      simp only [Builtin.copy_, List.getElem?_toArray, List.getElem?_cons_zero, List.getElem?_cons_succ, Sem.run_bind, run_underlying hu, Builtin.lenOf, Builtin.firstCells, sizeOf, typeInfo, run_program, hq, Sem.run_pure, Result.andThen_ok, hsize, hmin, hex, hst', hTl]
  unfold Oper.wp
  simp [execOp, ho, resolve, invoke, builtin, hd, hs, hrun, Result.andThen]
  refine hK _ _ ?_
  have := h _ (show _ = _ by simpa [splice] using setRow_heap w g _ _ t _ hg) (but_setRow _ _ _)
  exact this

theorem sixteen {α : Type} {l : List α} (h : l.length = 16) : ∃ x0 x1 x2 x3 x4 x5 x6 x7 x8 x9 x10 x11 x12 x13 x14 x15, l = [x0, x1, x2, x3, x4, x5, x6, x7, x8, x9, x10, x11, x12, x13, x14, x15] := by
  match l, h with
  | [x0, x1, x2, x3, x4, x5, x6, x7, x8, x9, x10, x11, x12, x13, x14, x15], _ => exact ⟨_, _, _, _, _, _, _, _, _, _, _, _, _, _, _, _, rfl⟩

/-! ### what Write answers and leaves -/
def writeE (S : List Nat) (f i : Int) (T : List UInt8) : Int := if hasK S f i then (if T.length = 16 then 0 else 1) else 2
def writeL (S : List Nat) (L : List Ent) (f i : Int) (T : List UInt8) : List Ent := if hasK S f i && T.length == 16 then L ++ [⟨f, i, T⟩] else L
theorem writeE_no {S : List Nat} {f i : Int} {T : List UInt8} (h : hasK S f i = false) : writeE S f i T = 2 := by simp [writeE, h]
theorem writeE_no2 {S : List Nat} {f i : Int} {T : List UInt8} (h : hasK S f i = true) (hT : T.length ≠ 16) : writeE S f i T = 1 := by simp [writeE, h, hT]
theorem writeE_ok {S : List Nat} {f i : Int} {T : List UInt8} (h : hasK S f i = true) (hT : T.length = 16) : writeE S f i T = 0 := by simp [writeE, h, hT]
theorem writeL_no {S : List Nat} {L : List Ent} {f i : Int} {T : List UInt8} (h : hasK S f i = false) : writeL S L f i T = L := by simp [writeL, h]
theorem writeL_no2 {S : List Nat} {L : List Ent} {f i : Int} {T : List UInt8} (hT : T.length ≠ 16) : writeL S L f i T = L := by simp [writeL, hT]
theorem writeL_ok {S : List Nat} {L : List Ent} {f i : Int} {T : List UInt8} (h : hasK S f i = true) (hT : T.length = 16) : writeL S L f i T = L ++ [⟨f, i, T⟩] := by simp [writeL, h, hT]

set_option maxHeartbeats 1000000 in
theorem pwrite (s p m : Nat) (S : List Nat) (L : List Ent) (f i : Int) (T : List UInt8) (w : World) (h : StoreIs w s p m S L) (hL : L.length < 1000000) :
    Calls Try.prog 13 #[.pointer (some ⟨s, 0, none⟩), .agg #[.int .i64 f, .int .i64 i], .string ⟨T.toArray⟩] w fun e w' => e = .returned (.int .i64 (writeE S f i T)) ∧ StoreIs w' s p m S (writeL S L f i T) ∧ Turn (fun k => k = s ∨ k = m) w w' := by
  have hsz := text_size T
  obtain ⟨t, ht⟩ : ∃ t : ByteArray, t = ⟨T.toArray⟩ := ⟨_, rfl⟩
  rw [← ht] at hsz ⊢
  have HT : Hid (t = ⟨T.toArray⟩) := ht
  clear ht
  cases h1 : hasK S f i with
  | false =>
    have HB : Hid (writeL S L f i T = L) := writeL_no h1
    have HE : Hid (writeE S f i T = 2) := writeE_no h1
    have H1 : Hid (hasK S f i = false) := h1
    clear h1
    go_enter Try.func13, Try.ntmps13
    go_wp2_with fail
    refine (phas s p m S L f i _ (h.alloc _)).mono ?_
    rintro e w1 ⟨rfl, hb1⟩
    rw [H1.out]
    have hb := (below_alloc w (.cells #[.int .i64 f, .int .i64 i] 25)).trans (hb1.mono (by simp))
    have h2 := (h.alloc (.cells #[.int .i64 f, .int .i64 i] 25)).below hb1
    clear hb1
    go_wp2_with fail
    go_ret
    exact ⟨by rw [HE.out]; rfl, by rw [HB.out]; exact h2, Turn.ofBelow hb⟩
  | true =>
    have H1 : Hid (hasK S f i = true) := h1
    by_cases hT : T.length = 16
    · have HB : Hid (writeL S L f i T = L ++ [⟨f, i, T⟩]) := writeL_ok h1 hT
      have HE : Hid (writeE S f i T = 0) := writeE_ok h1 hT
      obtain ⟨k, j, rfl, rfl, hk, hj⟩ := hasK_true h1
      have hjj := h.sz k
      have hle := h.le
      rw [hT] at hsz
      clear h1
      go_enter Try.func13, Try.ntmps13
      go_wp2_with fail
      refine (phas s p m S L k j _ (h.alloc _)).mono ?_
      rintro e w1 ⟨rfl, hb1⟩
      rw [H1.out]
      have hb := (below_alloc w (.cells #[.int .i64 k, .int .i64 j] 25)).trans (hb1.mono (by simp))
      have h2 := (h.alloc (.cells #[.int .i64 k, .int .i64 j] 25)).below hb1
      have hkr : RowAt w1 w.heap.size 25 [.int .i64 k, .int .i64 j] := (RowAt.new w #[.int .i64 k, .int .i64 j] 25).below hb1 (by simp)
      clear hb1 h
      go_upto_region 5 with fail
      go_cut [7] (fun s7 wx => ∃ b, s7 = .pointer (some ⟨b, 0, none⟩) ∧ RowAt wx b 51 (List.replicate 16 (.int .u8 0)) ∧ RowAt wx w.heap.size 25 [.int .i64 k, .int .i64 j] ∧ StoreIs wx s p m S L ∧ Below w.heap.size w wx ∧ w.heap.size < b)
      case first =>
        go_wp2_with fail
        go_meet
        exact ⟨_, rfl, RowAt.new w1 _ 51, hkr.below (below_alloc _ _) hkr.lt, h2.alloc _, hb.trans ((below_alloc _ _).mono hb.size), hkr.lt⟩
      case rest =>
        clear hb h2 hkr
        obtain ⟨b, rfl, hbr, hkr, hs, hb, hblt⟩ := hcut
        go_wp2_with (refine wpList_copy_text rfl (.tmp 15) (.tmp 16) 52 9 rfl 5 Try.underlying52 size5 b 0 16 16 T (by simp [Act.eval]) (by simp [Act.eval, HT.out]) hT (List.replicate 16 (.int .u8 0)) 51 hbr (by simp [hT]) ?_; intro w2 hg2 hb2)
        have hr2 : RowAt w2 b 51 (bc T) := by rw [← splice_whole (z := .int .u8 0) hT]; exact hg2.out
        have hk2 : RowAt w2 w.heap.size 25 [.int .i64 k, .int .i64 j] := hkr.but hb2 (by omega)
        have hs2 : StoreIs w2 s p m S L := by
          refine hs.turn (C := fun k => k = b) (Turn.ofBut hb2 rfl) ?_ ?_ ?_
          · rintro rfl
            have h1 := hs.h
            unfold RowAt at h1 hbr
            rw [hbr] at h1
            injection h1 with h1
            injection h1 with _ h1
            cases h1
          · rintro rfl
            have h1 := hs.c
            unfold RowAt at h1 hbr
            rw [hbr] at h1
            injection h1 with h1
            injection h1 with _ h1
            cases h1
          · rintro rfl
            exact hs.m.not_row hbr rfl
        have hb3 : Below w.heap.size w w2 := hb.trans (hb2.below (by omega))
        clear hg2 hb2 hbr hkr hs hb
        obtain ⟨x0, x1, x2, x3, x4, x5, x6, x7, x8, x9, x10, x11, x12, x13, x14, x15, hX⟩ := sixteen (l := bc T) (by rw [bc_length, hT])
        obtain ⟨w3, hup, hm3, hb4⟩ := (hs2.drewN 1).m.store (f := k) (i := j) (by omega) (by omega) hL T
        have hup' : (Instr.mapUpdate 47 (.map (some m)) (.agg #[.int .i64 k, .int .i64 j]) (.agg #[x0, x1, x2, x3, x4, x5, x6, x7, x8, x9, x10, x11, x12, x13, x14, x15])).run Try.prog w2.drew = .ok () w3 := by
          have := hup
          unfold pageV kv at this
          rw [hX] at this
          exact this
        have e0 : w2.cell? ⟨b, 0, none⟩ = some x0 := by rw [hr2.cell, hX]; rfl
        have e1 : w2.cell? ⟨b, 1, none⟩ = some x1 := by rw [hr2.cell, hX]; rfl
        have e2 : w2.cell? ⟨b, 2, none⟩ = some x2 := by rw [hr2.cell, hX]; rfl
        have e3 : w2.cell? ⟨b, 3, none⟩ = some x3 := by rw [hr2.cell, hX]; rfl
        have e4 : w2.cell? ⟨b, 4, none⟩ = some x4 := by rw [hr2.cell, hX]; rfl
        have e5 : w2.cell? ⟨b, 5, none⟩ = some x5 := by rw [hr2.cell, hX]; rfl
        have e6 : w2.cell? ⟨b, 6, none⟩ = some x6 := by rw [hr2.cell, hX]; rfl
        have e7 : w2.cell? ⟨b, 7, none⟩ = some x7 := by rw [hr2.cell, hX]; rfl
        have e8 : w2.cell? ⟨b, 8, none⟩ = some x8 := by rw [hr2.cell, hX]; rfl
        have e9 : w2.cell? ⟨b, 9, none⟩ = some x9 := by rw [hr2.cell, hX]; rfl
        have e10 : w2.cell? ⟨b, 10, none⟩ = some x10 := by rw [hr2.cell, hX]; rfl
        have e11 : w2.cell? ⟨b, 11, none⟩ = some x11 := by rw [hr2.cell, hX]; rfl
        have e12 : w2.cell? ⟨b, 12, none⟩ = some x12 := by rw [hr2.cell, hX]; rfl
        have e13 : w2.cell? ⟨b, 13, none⟩ = some x13 := by rw [hr2.cell, hX]; rfl
        have e14 : w2.cell? ⟨b, 14, none⟩ = some x14 := by rw [hr2.cell, hX]; rfl
        have e15 : w2.cell? ⟨b, 15, none⟩ = some x15 := by rw [hr2.cell, hX]; rfl
        have hc1 := hs2.c1
        have hk0 : w2.cell? ⟨w.heap.size, 0, none⟩ = some (.int .i64 k) := by rw [hk2.cell]; rfl
        have hk1 : w2.cell? ⟨w.heap.size, 1, none⟩ = some (.int .i64 j) := by rw [hk2.cell]; rfl
        clear hX hup
        simp only [Act.put, List.setIfInBounds_toArray, List.set_cons_succ, List.set_cons_zero]
        go_region
        clear hup' e0 e1 e2 e3 e4 e5 e6 e7 e8 e9 e10 e11 e12 e13 e14 e15 hc1 hk0 hk1 hk2 hr2
        obtain ⟨n1, n2, n3⟩ := hs2.ne
        have hh := (hs2.h.drewN 1).but hb4 n2
        have hq := (hs2.c.drewN 1).but hb4 n3
        have hc2 : w3.cell? ⟨s, 2, none⟩ = some (.int .i64 L.length) := by rw [hh.cell]; rfl
        have hf2 := hh.frozen 2
        go_wp2
        go_ret
        refine ⟨by rw [HE.out]; rfl, ?_, ?_⟩
        · rw [HB.out]
          have hset := hh.set 2 (.int .i64 (L.length + 1))
          refine ⟨by simpa using hset, hq.other (Ne.symm n1) _ _, hm3.block (heap_setCell_other w3 _ m _ (Ne.symm n2)), hs2.le, hs2.sz, ?_⟩
          intro e he
          rcases List.mem_append.1 he with he | he
          · exact hs2.ts e he
          · obtain rfl := List.mem_singleton.1 he
            exact hT
        · have t1 : Turn (fun q => q = s ∨ q = m) w w2 := Turn.ofBelow hb3
          have t2 : Turn (fun q => q = s ∨ q = m) w2 w3 := ⟨hb4.os, hb4.tape, hb4.output, Nat.le_of_eq hb4.size.symm, fun q _ hn => hb4.block q (fun e => hn (Or.inr e))⟩
          exact (t1.trans t2).trans (Turn.ofBut (But.setCell s 2 _ _) (Or.inl rfl))
    · have HB : Hid (writeL S L f i T = L) := writeL_no2 hT
      have HE : Hid (writeE S f i T = 1) := writeE_no2 h1 hT
      clear h1
      go_enter Try.func13, Try.ntmps13
      go_wp2_with fail
      refine (phas s p m S L f i _ (h.alloc _)).mono ?_
      rintro e w1 ⟨rfl, hb1⟩
      rw [H1.out]
      have hb := (below_alloc w (.cells #[.int .i64 f, .int .i64 i] 25)).trans (hb1.mono (by simp))
      have h2 := (h.alloc (.cells #[.int .i64 f, .int .i64 i] 25)).below hb1
      clear hb1
      go_wp2_with fail
      go_ret
      exact ⟨by rw [HE.out]; rfl, by rw [HB.out]; exact h2, Turn.ofBelow hb⟩
end Go.Proofs.Ytmemciebpnamkaa
