/- Walks of the order of values. -/
import Derived.Test.YtaclkmhgbmencaaV0
import Derived.Test.YtaclkmhgbmencaaW2
namespace Go.Proofs.Ytaclkmhgbmencaa
open Go.RowKit
attribute [local go_sem] Fl.run_store_float Try.float64bits Try.float64frombits

end Go.Proofs.Ytaclkmhgbmencaa
