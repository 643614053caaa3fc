/-
  Two keys compared.
-/
import Derived.Test.YtmemciebpnamkaaActs
namespace Go.Proofs.Ytmemciebpnamkaa
open Go.RowKit

theorem guard25 : Try.prog.eqGuardType Try.prog.depth 25 = false := by kernel_rfl
theorem fields25 : Try.prog.fieldsOf 25 = #[{ name := "File", type := 3, offset := 0, embedded := false, tag := "", pkgPath := "", byteOffset := 0 }, { name := "Index", type := 3, offset := 1, embedded := false, tag := "", pkgPath := "", byteOffset := 8 }] := by kernel_rfl
theorem under25 : Try.prog.underlying 25 = some (.struct (Try.prog.fieldsOf 25)) := by kernel_rfl
theorem stood25 : Try.prog.stoodInHeld 25 = false := by kernel_rfl
theorem plain3 : Try.prog.plainKey 3 = true := by kernel_rfl
theorem eq25 (f i g j : Int) (w : World) : (Op.equalIn 10000 25 (.agg #[.int .i64 f, .int .i64 i]) (.agg #[.int .i64 g, .int .i64 j])).run Try.prog w = .ok (f == g && i == j) w := by
  have p0 := run_part_plain (P := Try.prog) w plain3 (xs := #[.int .i64 f, .int .i64 i]) (off := 0) (v := .int .i64 f) rfl
  have p1 := run_part_plain (P := Try.prog) w plain3 (xs := #[.int .i64 f, .int .i64 i]) (off := 1) (v := .int .i64 i) rfl
  have q0 := run_part_plain (P := Try.prog) w plain3 (xs := #[.int .i64 g, .int .i64 j]) (off := 0) (v := .int .i64 g) rfl
  have q1 := run_part_plain (P := Try.prog) w plain3 (xs := #[.int .i64 g, .int .i64 j]) (off := 1) (v := .int .i64 j) rfl
  have r0 : (Op.equalIn 9999 3 (.int .i64 f) (.int .i64 g)).run Try.prog w = .ok (f == g) w := run_equalIn_int (P := Try.prog) w 9998 3 .i64 .i64 f g Try.underlying3
  have r1 : (Op.equalIn 9999 3 (.int .i64 i) (.int .i64 j)).run Try.prog w = .ok (i == j) w := run_equalIn_int (P := Try.prog) w 9998 3 .i64 .i64 i j Try.underlying3
  rw [run_equalIn_agg (P := Try.prog) w 9999 25 _ _ under25 stood25, fields25]
  cases hfg : (f == g) <;> cases hij : (i == j) <;> rw [hfg] at r0 <;> rw [hij] at r1 <;> simp [Op.eqFields, p0, p1, q0, q1, r0, r1]
end Go.Proofs.Ytmemciebpnamkaa
