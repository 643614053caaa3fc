/-
  The laws' acts: a slice of pairs that came in, read as a list; and bits.Map's calls told of its bits alone.
-/
import Derived.Test.YtnhlafifmiiliaaDoorOpen
import Derived.Test.YtnhlafifmiiliaaDoorSame
import Derived.Deep.SlicePairs
import Derived.Deep.RegionWith
namespace Go.Proofs.YtnhlafifmiiliaaDoor
open Go.ChangeShapes Go.WideShapes Go.ChangeAt Go.RowKit

def ActsAt (w : World) (a : Option Addr) (l : List (Int × Bool)) : Prop :=
  ∀ i (h : i < l.length), ∃ b off, a = some ⟨b, off, none⟩ ∧ w.cell? ⟨b, off + i * 2, none⟩ = some (.int .i64 l[i].1) ∧ w.cell? ⟨b, off + i * 2 + 1, none⟩ = some (.bool l[i].2)

theorem ActsAt.below {w w' : World} {a : Option Addr} {l : List (Int × Bool)} (h : ActsAt w a l) (hb : Below w.heap.size w w') : ActsAt w' a l := by
  intro i hi
  obtain ⟨b, off, rfl, h1, h2⟩ := h i hi
  exact ⟨b, off, rfl, cell_later hb h1, cell_later hb h2⟩

theorem cells31 : Tryd.prog.cellsOf 31 = 2 := by kernel_rfl
theorem cells3 : Tryd.prog.cellsOf 3 = 1 := by kernel_rfl
theorem cells4 : Tryd.prog.cellsOf 4 = 1 := by kernel_rfl

theorem acts_in {H : Type} {enc : TypeId × Value → H} {W : World} {a : Option Addr} {len cap : Nat} {d : DataW H} {p : List MemPlace}
    (h : DataW.Trod enc Tryd.prog W 0 (fun _ => true) true 22 (Value.slice a len cap) d p) :
    ∃ l : List (Int × Bool), len = l.length ∧ ActsAt W a l ∧ True ∧ (a = none → cap = 0) ∧ (len = 0 ∨ ∃ es sp, d = .slice es sp ∧ es.length = len) := by
  obtain ⟨fuel, hf⟩ := h
  rcases Deep.open_slice_pairs Tryd.underlying22 Tryd.underlying31 cells31 rfl rfl cells3 cells4 hf with ⟨hcs, _⟩ | ⟨x, ln, cp, m, n, V0, V1, D0, D1, P0, P1, hcs, _, hl, hm, hmm, hx, hc⟩
  · simp [Value.cells] at hcs
    obtain ⟨rfl, rfl, rfl⟩ := hcs
    exact ⟨[], rfl, fun i hi => by simp at hi, trivial, fun _ => rfl, Or.inl rfl⟩
  · simp [Value.cells] at hcs
    obtain ⟨rfl, rfl, rfl⟩ := hcs
    have hmm' : m = cap := by simpa using hmm
    subst hmm'
    have each : ∀ i, i < m → ∃ q : Int × Bool, W.cell? (x.add (i * 2)) = some (.int .i64 q.1) ∧ W.cell? (x.add (i * 2 + 1)) = some (.bool q.2) := by
      intro i hi
      obtain ⟨h1, h2, h3, h4⟩ := hc i hi
      obtain ⟨y, e1, -, -⟩ := DataW.trod_int Tryd.underlying3 h3
      obtain ⟨z, e2, -⟩ := DataW.trod_bool Tryd.underlying4 h4
      simp at e1 e2
      rw [e1] at h1
      rw [e2] at h2
      exact ⟨(y, z), h1, h2⟩
    obtain ⟨f, hfn⟩ := Deep.choose_lt each
    refine ⟨(List.range len).map f, by simp, fun i hi => ?_, trivial, (fun h => by cases h), Or.inr ⟨_, _, (Prod.mk.inj hx).1, by simp⟩⟩
    have hi' : i < len := by simpa using hi
    obtain ⟨h1, h2⟩ := hfn i (by omega)
    obtain ⟨b, off, spot⟩ := x
    have hsp : spot = none := by
      obtain ⟨h3, -⟩ := hfn 0 (by omega)
      simpa [Addr.add] using World.cell?_spot h3
    subst hsp
    rw [add_plain] at h1 h2
    exact ⟨b, off, rfl, by simpa using h1, by simpa [Nat.add_assoc] using h2⟩

theorem bytes31 : Tryd.prog.bytesOf 31 = 16 := by kernel_rfl
theorem reach_acts {H : Type} {ts : List TypeId} {ds : List (DataW H)} (h : (DataW.weightsEach Tryd.prog ts ds).all (· ≤ reachBytes) = true) (j : Nat) {d : DataW H} {len : Nat} (ht : ts[j]? = some 22) (hd : ds[j]? = some d)
    (hs : len = 0 ∨ ∃ es sp, d = .slice es sp ∧ es.length = len) : len * 16 ≤ 140737488351232 := by
  rcases hs with rfl | ⟨es, sp, rfl, rfl⟩
  · omega
  · have := sized_slice h ht hd Tryd.underlying22
    rw [bytes31] at this
    unfold reachBytes at this
    omega

/-! ### the map's calls, told of its bits alone -/
def MapB (w : World) (bm bw : Nat) (bs : List Bool) : Prop := ∃ ws, MapIs w bm bw bs ws
theorem MapB.below {B : Nat} {w w' : World} {bm bw : Nat} {bs : List Bool} (hm : MapB w bm bw bs) (hb : Below B w w') (h1 : bm < B) (h2 : bw < B) : MapB w' bm bw bs := by
  obtain ⟨ws, hm⟩ := hm; exact ⟨ws, hm.below hb h1 h2⟩
theorem MapB.but {b : Nat} {w w' : World} {bm bw : Nat} {bs : List Bool} (hm : MapB w bm bw bs) (hb : But b w w') (h1 : bm ≠ b) (h2 : bw ≠ b) : MapB w' bm bw bs := by
  obtain ⟨ws, hm⟩ := hm; exact ⟨ws, hm.m.but hb h1, hm.r.but hb h2, hm.ne, hm.len, hm.le, hm.lt, hm.bit⟩
theorem MapB.drewN {w : World} {bm bw : Nat} {bs : List Bool} (hm : MapB w bm bw bs) (n : Nat) : MapB (w.drewN n) bm bw bs := by
  obtain ⟨ws, hm⟩ := hm; exact ⟨ws, hm.m.drewN n, hm.r.drewN n, hm.ne, hm.len, hm.le, hm.lt, hm.bit⟩
theorem MapB.lt {w : World} {bm bw : Nat} {bs : List Bool} (hm : MapB w bm bw bs) : bm < w.heap.size ∧ bw < w.heap.size ∧ bm ≠ bw ∧ bs.length ≤ 65536 := by
  obtain ⟨ws, hm⟩ := hm; exact ⟨hm.m.lt, hm.r.lt, hm.ne, hm.le⟩

theorem getB (bm bw : Nat) (bs : List Bool) (i : Int) (w : World) (hm : MapB w bm bw bs) :
    Calls Tryd.prog 17 #[.pointer (some ⟨bm, 0, none⟩), .int .i64 i] w fun e w' => e = .returned (.bool (bget bs i)) ∧ w' = w := by
  obtain ⟨ws, hm⟩ := hm; exact get_any bm bw bs ws i w hm
theorem countB (bm bw : Nat) (bs : List Bool) (w : World) (hm : MapB w bm bw bs) :
    Calls Tryd.prog 19 #[.pointer (some ⟨bm, 0, none⟩)] w fun e w' => e = .returned (.int .i64 (bs.count true)) ∧ w' = w := by
  obtain ⟨ws, hm⟩ := hm; exact count_any bm bw bs ws w hm
theorem lenB (bm bw : Nat) (bs : List Bool) (w : World) (hm : MapB w bm bw bs) :
    Calls Tryd.prog 14 #[.pointer (some ⟨bm, 0, none⟩)] w fun e w' => e = .returned (.int .i64 bs.length) ∧ w' = w := by
  obtain ⟨ws, hm⟩ := hm; exact len_any bm bw bs ws w hm
theorem nextB (bm bw : Nat) (bs : List Bool) (g : Int) (f : Nat) (on : Bool) (w : World) (hm : MapB w bm bw bs) (hT : Tab w) (hg : g = f) :
    Calls Tryd.prog 21 #[.pointer (some ⟨bm, 0, none⟩), .int .i64 g, .bool on] w fun e w' => (∃ r, e = .returned (.int .i64 r) ∧ IsNext bs f on r) ∧ w' = w := by
  obtain ⟨ws, hm⟩ := hm
  refine (next_nat bm bw bs ws g f on w hm hT hg).mono ?_
  rintro e w' ⟨r, rfl, hr, rfl⟩
  exact ⟨⟨r, rfl, hr⟩, rfl⟩

theorem bset_len (bs : List Bool) (i : Int) (on : Bool) : (bset bs i on).length = bs.length := by unfold bset; split <;> simp

theorem setB (bm bw : Nat) (bs : List Bool) (i : Int) (on : Bool) (w : World) (hm : MapB w bm bw bs) :
    Calls Tryd.prog 15 #[.pointer (some ⟨bm, 0, none⟩), .int .i64 i, .bool on] w fun e w' => e = .returned (.bool (turned bs i on)) ∧ MapB w' bm bw (bset bs i on) ∧ But bw w w' := by
  obtain ⟨ws, hm⟩ := hm
  by_cases hn : 0 ≤ i ∧ i < bs.length
  · obtain ⟨n, rfl⟩ := Int.eq_ofNat_of_zero_le hn.1
    have hnl : n < bs.length := by omega
    have e0 : bset bs n on = bs.set n on := by simp [bset]
    have et : turned bs n on = (bs.getD n false != on) := by unfold turned; rw [decide_eq_true hn, bget_in]; rfl
    rw [e0, et]
    by_cases hon : bs.getD n false = on
    · refine (set_same bm bw bs ws n on w hm hnl hon).mono ?_
      rintro e w' ⟨rfl, rfl⟩
      have e1 : bs.set n on = bs := by
        rw [← hon]
        apply List.ext_getElem (by simp)
        intro j h1 h2
        rw [List.getElem_set]
        split
        · rename_i h; subst h; simp [hnl]
        · rfl
      rw [e1]
      exact ⟨by rw [hon]; simp, ⟨ws, hm⟩, But.refl _ _⟩
    · refine (set_turn bm bw bs ws n on w hm hnl (by cases on <;> simp_all)).mono ?_
      rintro e w' ⟨rfl, h1, h2⟩
      exact ⟨by rw [bne_iff_ne.2 hon], ⟨_, h1⟩, h2⟩
  · refine (set_out bm bw bs ws i on w hm hn).mono ?_
    rintro e w' ⟨rfl, rfl⟩
    have e1 : bset bs i on = bs := by
      unfold bset
      split
      · exact List.set_eq_of_length_le (by omega)
      · rfl
    rw [e1]
    exact ⟨by unfold turned; rw [decide_eq_false hn]; rfl, ⟨ws, hm⟩, But.refl _ _⟩

theorem newB (n : Int) (k : Nat) (w : World) (hk : n < 0 ∧ k = 0 ∨ n = k ∧ k ≤ 65536 ∨ 65536 < n ∧ k = 65536) :
    Calls Tryd.prog 12 #[.int .i64 n] w fun e w' => e = .returned (.pointer (some ⟨w.heap.size + 1, 0, none⟩)) ∧ MapB w' (w.heap.size + 1) w.heap.size (List.replicate k false) ∧ Below w.heap.size w w' := by
  refine (new_core n k w hk).mono ?_
  rintro e w' ⟨rfl, h1, h2⟩
  exact ⟨rfl, ⟨_, h1⟩, h2⟩

end Go.Proofs.YtnhlafifmiiliaaDoor
