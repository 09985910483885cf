/- ValueBack's walk, in the form that the row wants. -/
import Derived.Test.YtanljohnmaokeaaBackLaw
import Derived.Test.YtanljohnmaokeaaOpenV
namespace Go.Proofs.Ytanljohnmaokeaa
open Go.RowKit

theorem back_row (v : Vl.V) (s ahead : ByteArray) (w : World) (hv : v.Fit) (_ : s.size ≤ maxLen) (_ : ahead.size ≤ maxLen) :
    Calls Try.prog 7 #[.agg #[.int .i64 v.k, .int .i64 v.n, .float .f64 v.f, .string v.s], .string s, .string ahead] w fun e w' => e = .returned (.bool true) ∧ Below w.heap.size w w' :=
  back_any v s ahead w hv.n1 hv.n2 hv.f

end Go.Proofs.Ytanljohnmaokeaa
