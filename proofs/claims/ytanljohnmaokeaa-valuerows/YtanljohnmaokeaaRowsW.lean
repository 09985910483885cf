/- ValueRows' walk, in the form that the row wants. -/
import Derived.Test.YtanljohnmaokeaaRowsLaw
import Derived.Test.YtanljohnmaokeaaOpenVs
namespace Go.Proofs.Ytanljohnmaokeaa
open Go.RowKit

theorem rows_row (p : Option Addr) (n c : Nat) (xs : List Vl.V) (s : ByteArray) (w : World) (h : Vl.Row1 w p n c xs) (_ : s.size ≤ maxLen) :
    Calls Try.prog 5 #[.slice p n c, .string s] w fun e w' => e = .returned (.bool true) ∧ Below w.heap.size w w' :=
  rows_law p n c xs s w h.len h.le h.nil (Vl.hid h.row) (Vl.hid fun j v hv => (h.fit j v hv).f)

end Go.Proofs.Ytanljohnmaokeaa
