/- A field of a rectangle that no memory holds. -/
import Derived.Test.YtpmggljdcbbdfaaHold
namespace Go.Proofs.Ytpmggljdcbbdfaa
open Go.RowKit rm
theorem run_field2 (a b c d : Int) (w : World) : (Instr.field 23 (.agg #[.int .i64 a, .int .i64 b, .int .i64 c, .int .i64 d]) 2).run Try.prog w = .ok (.int .i64 c) w := by
  have a3 := Try.isAgg3
  unfold Instr.field asAgg
  go_simp
theorem run_field3 (a b c d : Int) (w : World) : (Instr.field 23 (.agg #[.int .i64 a, .int .i64 b, .int .i64 c, .int .i64 d]) 3).run Try.prog w = .ok (.int .i64 d) w := by
  have a3 := Try.isAgg3
  unfold Instr.field asAgg
  go_simp
end Go.Proofs.Ytpmggljdcbbdfaa
