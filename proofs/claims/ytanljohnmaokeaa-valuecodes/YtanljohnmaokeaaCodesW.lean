/- ValueCodes' walk, in the form that the row wants. -/
import Derived.Test.YtanljohnmaokeaaCodesLaw
import Derived.Test.YtanljohnmaokeaaOpenV
namespace Go.Proofs.Ytanljohnmaokeaa
open Go.RowKit

theorem codes_row (v : Vl.V) (s : ByteArray) (a : Int) (w : World) (hv : v.Fit) (_ : s.size ≤ maxLen) (_ : (Lit.int .i64 a).wf = true) :
    Calls Try.prog 4 #[.agg #[.int .i64 v.k, .int .i64 v.n, .float .f64 v.f, .string v.s], .string s, .int .i64 a] w fun e w' => e = .returned (.bool true) ∧ Below w.heap.size w w' :=
  codes_any v s a w hv.f

end Go.Proofs.Ytanljohnmaokeaa
