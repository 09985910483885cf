/- ValueTells' walk, in the form that the row wants. -/
import Derived.Test.YtanljohnmaokeaaTellsLaw
import Derived.Test.YtanljohnmaokeaaX1
import Derived.Test.YtanljohnmaokeaaOpenV
namespace Go.Proofs.Ytanljohnmaokeaa
open Go.RowKit

theorem tells_row (s : ByteArray) (a b : Vl.V) (w : World) (_ : s.size ≤ maxLen) (_ : a.Fit) (_ : b.Fit) :
    Calls Try.prog 3 #[.string s, .agg #[.int .i64 a.k, .int .i64 a.n, .float .f64 a.f, .string a.s], .agg #[.int .i64 b.k, .int .i64 b.n, .float .f64 b.f, .string b.s]] w fun e w' => e = .returned (.bool true) ∧ Below w.heap.size w w' :=
  tells_any wakes_any good_any s a b w

end Go.Proofs.Ytanljohnmaokeaa
