/-
  Two keys, two pages compared.
-/
import Derived.Test.YtponlldgnlckfaaR1
import Derived.Laws.StructEq
namespace Go.Proofs.Ytponlldgnlckfaa
open Go.RowKit

theorem guard24 : Try.prog.eqGuardType Try.prog.depth 24 = false := by kernel_rfl
theorem fields24 : Try.prog.fieldsOf 24 = #[{ name := "File", type := 3, offset := 0, embedded := false, tag := "", pkgPath := "", byteOffset := 0 }, { name := "Index", type := 3, offset := 1, embedded := false, tag := "", pkgPath := "", byteOffset := 8 }] := by kernel_rfl
theorem under24 : Try.prog.underlying 24 = some (.struct (Try.prog.fieldsOf 24)) := by kernel_rfl
theorem stood24 : Try.prog.stoodInHeld 24 = false := by kernel_rfl
theorem plain3 : Try.prog.plainKey 3 = true := by kernel_rfl
theorem plain4 : Try.prog.plainKey 4 = true := by kernel_rfl
theorem plain25 : Try.prog.plainKey 25 = true := by kernel_rfl
def kv (f i : Int) : Value := .agg #[.int .i64 f, .int .i64 i]
theorem eqAt24 (d : Nat) (f i g j : Int) (w : World) : (Op.equalIn (d + 2) 24 (.agg #[.int .i64 f, .int .i64 i]) (.agg #[.int .i64 g, .int .i64 j])).run Try.prog w = .ok (f == g && i == j) w := by
  have p0 := run_part_plain (P := Try.prog) w plain3 (xs := #[.int .i64 f, .int .i64 i]) (off := 0) (v := .int .i64 f) rfl
  have p1 := run_part_plain (P := Try.prog) w plain3 (xs := #[.int .i64 f, .int .i64 i]) (off := 1) (v := .int .i64 i) rfl
  have q0 := run_part_plain (P := Try.prog) w plain3 (xs := #[.int .i64 g, .int .i64 j]) (off := 0) (v := .int .i64 g) rfl
  have q1 := run_part_plain (P := Try.prog) w plain3 (xs := #[.int .i64 g, .int .i64 j]) (off := 1) (v := .int .i64 j) rfl
  have r0 : (Op.equalIn (d + 1) 3 (.int .i64 f) (.int .i64 g)).run Try.prog w = .ok (f == g) w := run_equalIn_int (P := Try.prog) w d 3 .i64 .i64 f g Try.underlying3
  have r1 : (Op.equalIn (d + 1) 3 (.int .i64 i) (.int .i64 j)).run Try.prog w = .ok (i == j) w := run_equalIn_int (P := Try.prog) w d 3 .i64 .i64 i j Try.underlying3
  rw [run_equalIn_agg (P := Try.prog) w (d + 1) 24 _ _ under24 stood24, fields24]
  cases hfg : (f == g) <;> cases hij : (i == j) <;> rw [hfg] at r0 <;> rw [hij] at r1 <;> simp [Op.eqFields, p0, p1, q0, q1, r0, r1]
theorem eq24 (f i g j : Int) (w : World) : (Op.equalIn 10000 24 (.agg #[.int .i64 f, .int .i64 i]) (.agg #[.int .i64 g, .int .i64 j])).run Try.prog w = .ok (f == g && i == j) w := eqAt24 9998 f i g j w

/-- A page as a value. -/
def pc (x : Pg) : Array Value := #[.int .i64 x.kf, .int .i64 x.ki, .int .i64 x.pl, .int .i64 x.at', .int .i64 x.ow, .int .i64 x.rf, .int .i64 0, .bool false, .bool x.dr]
def pv (x : Pg) : Value := .agg (pc x)
theorem guard45 : Try.prog.eqGuardType Try.prog.depth 45 = false := by kernel_rfl
theorem under45 : Try.prog.underlying 45 = some (.struct (Try.prog.fieldsOf 45)) := by kernel_rfl
theorem stood45 : Try.prog.stoodInHeld 45 = false := by kernel_rfl
theorem fields45 : Try.prog.fieldsOf 45 = #[{ name := "Key", type := 24, offset := 0, embedded := false, tag := "", pkgPath := "", byteOffset := 0 }, { name := "Place", type := 25, offset := 2, embedded := false, tag := "", pkgPath := "", byteOffset := 16 }, { name := "At", type := 3, offset := 3, embedded := false, tag := "", pkgPath := "", byteOffset := 24 }, { name := "Owner", type := 3, offset := 4, embedded := false, tag := "", pkgPath := "", byteOffset := 32 }, { name := "Refs", type := 3, offset := 5, embedded := false, tag := "", pkgPath := "", byteOffset := 40 }, { name := "Gen", type := 3, offset := 6, embedded := false, tag := "", pkgPath := "", byteOffset := 48 }, { name := "Hot", type := 4, offset := 7, embedded := false, tag := "", pkgPath := "", byteOffset := 56 }, { name := "Dirty", type := 4, offset := 8, embedded := false, tag := "", pkgPath := "", byteOffset := 57 }] := by kernel_rfl
theorem part24 (xs : Array Value) (w : World) : (part 24 xs 0).run Try.prog w = .ok (.agg (xs.extract 0 2)) w := by
  have hu := under24
  simp [part, isAgg, run_underlying hu]
theorem eq45_same (x : Pg) (w : World) : (Op.equalIn 10000 45 (pv x) (pv x)).run Try.prog w = .ok true w := by
  have p0 := part24 (pc x) w
  have p1 := run_part_plain (P := Try.prog) w plain25 (xs := pc x) (off := 2) (v := .int .i64 x.pl) rfl
  have p2 := run_part_plain (P := Try.prog) w plain3 (xs := pc x) (off := 3) (v := .int .i64 x.at') rfl
  have p3 := run_part_plain (P := Try.prog) w plain3 (xs := pc x) (off := 4) (v := .int .i64 x.ow) rfl
  have p4 := run_part_plain (P := Try.prog) w plain3 (xs := pc x) (off := 5) (v := .int .i64 x.rf) rfl
  have p5 := run_part_plain (P := Try.prog) w plain3 (xs := pc x) (off := 6) (v := .int .i64 0) rfl
  have p6 := run_part_plain (P := Try.prog) w plain4 (xs := pc x) (off := 7) (v := .bool false) rfl
  have p7 := run_part_plain (P := Try.prog) w plain4 (xs := pc x) (off := 8) (v := .bool x.dr) rfl
  have e0 : (pc x).extract 0 2 = #[.int .i64 x.kf, .int .i64 x.ki] := rfl
  rw [e0] at p0
  have r0 := eqAt24 9997 x.kf x.ki x.kf x.ki w
  have r1 : (Op.equalIn 9999 25 (.int .i64 x.pl) (.int .i64 x.pl)).run Try.prog w = .ok (x.pl == x.pl) w := run_equalIn_int (P := Try.prog) w 9998 25 .i64 .i64 x.pl x.pl Try.underlying25
  have r2 : ∀ a : Int, (Op.equalIn 9999 3 (.int .i64 a) (.int .i64 a)).run Try.prog w = .ok (a == a) w := fun a => run_equalIn_int (P := Try.prog) w 9998 3 .i64 .i64 a a Try.underlying3
  have r3 : ∀ a : Bool, (Op.equalIn 9999 4 (.bool a) (.bool a)).run Try.prog w = .ok (a == a) w := fun a => run_equalIn_bool' (P := Try.prog) w 9998 4 a a Try.underlying4
  simp only [beq_self_eq_true, Bool.and_self] at r0 r1 r2 r3
  unfold pv
  rw [run_equalIn_agg (P := Try.prog) w 9999 45 _ _ under45 stood45, fields45]
  simp [Op.eqFields, p0, p1, p2, p3, p4, p5, p6, p7, r0, r1, r2, r3]
end Go.Proofs.Ytponlldgnlckfaa
