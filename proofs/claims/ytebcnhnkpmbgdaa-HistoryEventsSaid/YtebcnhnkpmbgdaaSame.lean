/-
  A relation compared with itself.
-/
import Derived.Test.YtebcnhnkpmbgdaaIRd
import Derived.Laws.StructEq
namespace Go.Proofs.Ytebcnhnkpmbgdaa
open Go.RowKit
set_option maxRecDepth 20000

/-- Twelve sets compared with themselves. -/
theorem rows_same (x0 x1 x2 x3 x4 x5 x6 x7 x8 x9 x10 x11 : Int) (w : World) :
    (Op.equalIn 9999 30 (.agg #[.int .u16 x0, .int .u16 x1, .int .u16 x2, .int .u16 x3, .int .u16 x4, .int .u16 x5, .int .u16 x6, .int .u16 x7, .int .u16 x8, .int .u16 x9, .int .u16 x10, .int .u16 x11]) (.agg #[.int .u16 x0, .int .u16 x1, .int .u16 x2, .int .u16 x3, .int .u16 x4, .int .u16 x5, .int .u16 x6, .int .u16 x7, .int .u16 x8, .int .u16 x9, .int .u16 x10, .int .u16 x11])).run Try.prog w = .ok true w := by
  have h1 := Try.underlying29
  have h2 := Try.isAgg29
  have h3 := Try.sizeOf29
  rw [show (9999 : Nat) = 9998 + 1 from rfl, Op.equalIn]
  simp only [Sem.run_bind, run_underlying Try.underlying30, Result.andThen_ok]
  simp only [Std.Legacy.Range.forIn_eq_forIn_range', Std.Legacy.Range.size, Nat.sub_zero, Nat.add_sub_cancel, Nat.div_one, List.range'_succ, List.range'_zero, List.forIn_cons, List.forIn_nil]
  go_simp
end Go.Proofs.Ytebcnhnkpmbgdaa
