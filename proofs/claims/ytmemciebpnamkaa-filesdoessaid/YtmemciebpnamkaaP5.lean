/-
  Contract of files.Read.
-/
import Derived.Test.YtmemciebpnamkaaP4
namespace Go.Proofs.Ytmemciebpnamkaa
open Go.RowKit

def readE (S : List Nat) (f i : Int) : Int := if hasK S f i then 0 else 2
def readT (S : List Nat) (L : List Ent) (f i : Int) : ByteArray := if hasK S f i then ⟨((lookL L f i).getD (firstT f i)).toArray⟩ else ByteArray.empty
theorem readE_no {S : List Nat} {f i : Int} (h : hasK S f i = false) : readE S f i = 2 := by simp [readE, h]
theorem readE_ok {S : List Nat} {f i : Int} (h : hasK S f i = true) : readE S f i = 0 := by simp [readE, h]
theorem readT_no {S : List Nat} {L : List Ent} {f i : Int} (h : hasK S f i = false) : readT S L f i = ByteArray.empty := by simp [readT, h]
theorem readT_some {S : List Nat} {L : List Ent} {f i : Int} {T : List UInt8} (h : hasK S f i = true) (hl : lookL L f i = some T) : readT S L f i = ⟨T.toArray⟩ := by simp [readT, h, hl]
theorem readT_none {S : List Nat} {L : List Ent} {f i : Int} (h : hasK S f i = true) (hl : lookL L f i = none) : readT S L f i = ⟨(firstT f i).toArray⟩ := by simp [readT, h, hl]
theorem lookL_mem {L : List Ent} {f i : Int} {T : List UInt8} (h : lookL L f i = some T) : ∃ e ∈ L, e.t = T := by
  unfold lookL at h
  cases hq : L.reverse.find? (fun e => e.f == f && e.i == i) with
  | none => rw [hq] at h; cases h
  | some e =>
    rw [hq] at h
    exact ⟨e, by simpa using List.mem_of_find?_eq_some hq, by simpa using h⟩

theorem bytes16 {V : List UInt8} (h : V.length = 16) : ∃ z0 z1 z2 z3 z4 z5 z6 z7 z8 z9 z10 z11 z12 z13 z14 z15 : Int, bc V = [.int .u8 z0, .int .u8 z1, .int .u8 z2, .int .u8 z3, .int .u8 z4, .int .u8 z5, .int .u8 z6, .int .u8 z7, .int .u8 z8, .int .u8 z9, .int .u8 z10, .int .u8 z11, .int .u8 z12, .int .u8 z13, .int .u8 z14, .int .u8 z15] := by
  obtain ⟨x0, x1, x2, x3, x4, x5, x6, x7, x8, x9, x10, x11, x12, x13, x14, x15, rfl⟩ := sixteen h
  exact ⟨_, _, _, _, _, _, _, _, _, _, _, _, _, _, _, _, rfl⟩

set_option maxHeartbeats 1000000 in
theorem pread (s p m : Nat) (S : List Nat) (L : List Ent) (f i : Int) (w : World) (h : StoreIs w s p m S L) :
    Calls Try.prog 15 #[.pointer (some ⟨s, 0, none⟩), .agg #[.int .i64 f, .int .i64 i]] w fun e w' => e = .returned (.tuple #[.string (readT S L f i), .int .i64 (readE S f i)]) ∧ Below w.heap.size w w' := by
  cases h1 : hasK S f i with
  | false =>
    have HB : Hid (readT S L f i = ByteArray.empty) := readT_no h1
    have HE : Hid (readE S f i = 2) := readE_no h1
    have H1 : Hid (hasK S f i = false) := h1
    clear h1
    go_enter Try.func15, Try.ntmps15
    go_wp2_with fail
    refine (phas s p m S L f i _ (h.alloc _)).mono ?_
    rintro e w1 ⟨rfl, hb1⟩
    rw [H1.out]
    have hb := (below_alloc w (.cells #[.int .i64 f, .int .i64 i] 25)).trans (hb1.mono (by simp))
    clear hb1
    go_wp2_with fail
    go_ret2
    exact ⟨by rw [HB.out, HE.out]; rfl, hb⟩
  | true =>
    have H1 : Hid (hasK S f i = true) := h1
    have HE : Hid (readE S f i = 0) := readE_ok h1
    obtain ⟨k, j, rfl, rfl, hk, hj⟩ := hasK_true h1
    have hjj := h.sz k
    have hle := h.le
    have HT1 : Hid (∀ T, lookL L k j = some T → readT S L k j = ⟨T.toArray⟩) := fun T hT => readT_some h1 hT
    have HT2 : Hid (lookL L k j = none → readT S L k j = ⟨(firstT k j).toArray⟩) := fun hT => readT_none h1 hT
    have hVl : (lookV L k j).length = 16 := by
      unfold lookV
      cases hl : lookL L k j with
      | none => simp
      | some T =>
        obtain ⟨e, he, rfl⟩ := lookL_mem hl
        simpa using h.ts e he
    clear h1
    go_enter Try.func15, Try.ntmps15
    go_wp2_with fail
    refine (phas s p m S L k j _ (h.alloc _)).mono ?_
    rintro e w1 ⟨rfl, hb1⟩
    rw [H1.out]
    have hb := (below_alloc w (.cells #[.int .i64 k, .int .i64 j] 25)).trans (hb1.mono (by simp))
    have h2 := (h.alloc (.cells #[.int .i64 k, .int .i64 j] 25)).below hb1
    have hkr : RowAt w1 w.heap.size 25 [.int .i64 k, .int .i64 j] := (RowAt.new w #[.int .i64 k, .int .i64 j] 25).below hb1 (by simp)
    clear hb1 h
    go_wp2_with fail
    go_upto_region 3 with fail
    go_cut [6, 7] (fun s6 s7 wx => ∃ b, s6 = .pointer (some ⟨b, 0, none⟩) ∧ s7 = .bool (lookL L k j).isSome ∧ RowAt wx b 51 (bc (lookV L k j)) ∧ RowAt wx w.heap.size 25 [.int .i64 k, .int .i64 j] ∧ Below w.heap.size w wx)
    case first =>
      obtain ⟨V, hV⟩ : ∃ V, V = lookV L k j := ⟨_, rfl⟩
      obtain ⟨ok, hok⟩ : ∃ ok, ok = (lookL L k j).isSome := ⟨_, rfl⟩
      rw [← hV] at hVl
      obtain ⟨z0, z1, z2, z3, z4, z5, z6, z7, z8, z9, z10, z11, z12, z13, z14, z15, hX⟩ := bytes16 hVl
      have look : ∀ w', StoreIs w' s p m S L → (Instr.lookup 47 (.map (some m)) (.agg #[.int .i64 k, .int .i64 j]) true).run Try.prog w' = .ok (.tuple #[.agg #[.int .u8 z0, .int .u8 z1, .int .u8 z2, .int .u8 z3, .int .u8 z4, .int .u8 z5, .int .u8 z6, .int .u8 z7, .int .u8 z8, .int .u8 z9, .int .u8 z10, .int .u8 z11, .int .u8 z12, .int .u8 z13, .int .u8 z14, .int .u8 z15], .bool ok]) w' := fun w' hw' => by
        have := hw'.m.look (f := k) (i := j) (by omega) (by omega)
        unfold pageV kv at this
        rw [← hV, ← hok, hX] at this
        exact this
      have hlk := look w1.drew (h2.drewN 1)
      have hlk2 := look (w1.alloc (.cells #[.int .u8 0, .int .u8 0, .int .u8 0, .int .u8 0, .int .u8 0, .int .u8 0, .int .u8 0, .int .u8 0, .int .u8 0, .int .u8 0, .int .u8 0, .int .u8 0, .int .u8 0, .int .u8 0, .int .u8 0, .int .u8 0] 51)).drew ((h2.alloc _).drewN 1)
      have hc1 := h2.c1
      have hk0 : w1.cell? ⟨w.heap.size, 0, none⟩ = some (.int .i64 k) := by rw [hkr.cell]; rfl
      have hk1 : w1.cell? ⟨w.heap.size, 1, none⟩ = some (.int .i64 j) := by rw [hkr.cell]; rfl
      have hc1' : (w1.alloc (.cells #[.int .u8 0, .int .u8 0, .int .u8 0, .int .u8 0, .int .u8 0, .int .u8 0, .int .u8 0, .int .u8 0, .int .u8 0, .int .u8 0, .int .u8 0, .int .u8 0, .int .u8 0, .int .u8 0, .int .u8 0, .int .u8 0] 51)).cell? ⟨s, 1, none⟩ = some (.map (some m)) := (h2.alloc _).c1
      have hk0' : (w1.alloc (.cells #[.int .u8 0, .int .u8 0, .int .u8 0, .int .u8 0, .int .u8 0, .int .u8 0, .int .u8 0, .int .u8 0, .int .u8 0, .int .u8 0, .int .u8 0, .int .u8 0, .int .u8 0, .int .u8 0, .int .u8 0, .int .u8 0] 51)).cell? ⟨w.heap.size, 0, none⟩ = some (.int .i64 k) := by rw [(hkr.alloc _).cell]; rfl
      have hk1' : (w1.alloc (.cells #[.int .u8 0, .int .u8 0, .int .u8 0, .int .u8 0, .int .u8 0, .int .u8 0, .int .u8 0, .int .u8 0, .int .u8 0, .int .u8 0, .int .u8 0, .int .u8 0, .int .u8 0, .int .u8 0, .int .u8 0, .int .u8 0] 51)).cell? ⟨w.heap.size, 1, none⟩ = some (.int .i64 j) := by rw [(hkr.alloc _).cell]; rfl
      have HV : Hid (V = lookV L k j) := hV
      have HOK : Hid (ok = (lookL L k j).isSome) := hok
      have HX : Hid (bc V = [.int .u8 z0, .int .u8 z1, .int .u8 z2, .int .u8 z3, .int .u8 z4, .int .u8 z5, .int .u8 z6, .int .u8 z7, .int .u8 z8, .int .u8 z9, .int .u8 z10, .int .u8 z11, .int .u8 z12, .int .u8 z13, .int .u8 z14, .int .u8 z15]) := hX
      clear look hX hV hok hjj hj hk HT1 HT2
      go_region
      all_goals
        go_wp2
        go_meet
        refine ⟨_, rfl, by rw [HOK.out], ?_, (hkr.alloc _).drewN 1, below_drawn (hb.trans ((below_alloc _ _).mono hb.size)) 1⟩
        rw [← HV.out, HX.out]
        exact (RowAt.new w1 _ 51).drewN 1
    case rest =>
      obtain ⟨b, rfl, rfl, hbr, hkr', hb'⟩ := hcut
      clear hb h2 hkr
      cases hl : lookL L k j with
      | some V =>
        have hV : lookV L k j = V := by simp [lookV, hl]
        rw [hV] at hVl hbr
        have HB : Hid (readT S L k j = ⟨V.toArray⟩) := HT1.out V hl
        have hcv := run_convert_bytes_back (P := Try.prog) wc 52 9 5 ⟨b, 0, none⟩ 16 V Try.underlying52 Try.underlying5 Try.underlying9 (fun j hj => by
          rw [Addr.add_mid, hbr.cell, Nat.zero_add]; exact bc_get _ j hj)
        rw [hVl] at hcv
        have hq : (some V).isSome = true := rfl
        clear hl hV HT1 HT2
        go_wp2
        go_ret2
        exact ⟨by rw [HB.out, HE.out]; rfl, hb'⟩
      | none =>
        have HB : Hid (readT S L k j = ⟨(firstT k j).toArray⟩) := HT2.out hl
        have hk0 : wc.cell? ⟨w.heap.size, 0, none⟩ = some (.int .i64 k) := by rw [hkr'.cell]; rfl
        have hk1 : wc.cell? ⟨w.heap.size, 1, none⟩ = some (.int .i64 j) := by rw [hkr'.cell]; rfl
        have hq : (none : Option (List UInt8)).isSome = false := rfl
        clear hl HT1 HT2
        go_wp2_with fail
        refine (pfirst k j _).mono ?_
        rintro e w5 ⟨rfl, hb5⟩
        go_wp2_with fail
        go_ret2
        exact ⟨by rw [HB.out, HE.out]; rfl, hb'.trans (hb5.mono hb'.size)⟩
end Go.Proofs.Ytmemciebpnamkaa
