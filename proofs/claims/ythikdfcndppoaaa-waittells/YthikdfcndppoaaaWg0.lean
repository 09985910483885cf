/- Two edges compared. -/
import Derived.Test.YthikdfcndppoaaaWc1
import Derived.ChangeKeysEq
import Derived.Laws.StructEq
namespace Go.Proofs.Ythikdfcndppoaaa
open Go.RowKit

set_option maxRecDepth 100000 in
set_option maxHeartbeats 1000000 in
theorem eqPair (w : World) (x y : Int) : (Op.equalIn 10000 31 (.agg #[.int .i64 x, .int .i64 y]) (.agg #[.int .i64 x, .int .i64 y])).run Try.prog w = .ok true w := by
  have h3 : (Op.equalIn 9999 3 (.int .i64 x) (.int .i64 x)).run Try.prog w = .ok (x == x) w := run_equalIn_int w 9998 3 .i64 .i64 x x Try.underlying3
  have h4 : (Op.equalIn 9999 3 (.int .i64 y) (.int .i64 y)).run Try.prog w = .ok (y == y) w := run_equalIn_int w 9998 3 .i64 .i64 y y Try.underlying3
  have hi : Try.prog.info? 3 = some Try.t3 := Try.type3
  have hz : Try.prog.cellsOf 3 = 1 := by kernel_rfl
  have p0 : (part 3 #[.int .i64 x, .int .i64 y] (0 * 1)).run Try.prog w = .ok (.int .i64 x) w := run_part_plain w (by kernel_rfl) rfl
  have p1 : (part 3 #[.int .i64 x, .int .i64 y] (1 * 1)).run Try.prog w = .ok (.int .i64 y) w := run_part_plain w (by kernel_rfl) rfl
  refine (run_equalIn_array w 9999 (e := 3) (n := 2) #[.int .i64 x, .int .i64 y] #[.int .i64 x, .int .i64 y] Try.underlying31 hi).trans ?_
  rw [hz, show List.range 2 = [0, 1] from rfl]
  simp only [Op.eqItems, Sem.run_bind, p0, p1, h3, h4, Result.andThen_ok, beq_self_eq_true, Bool.not_true, Bool.false_eq_true, if_false, Sem.run_pure]
end Go.Proofs.Ythikdfcndppoaaa
