/- Walks of the order of values. -/
import Derived.Test.YtlafccdaplgfoaaDoorV0
import Derived.Test.YtlafccdaplgfoaaDoorW2
namespace Go.Proofs.YtlafccdaplgfoaaDoor
open Go.RowKit
attribute [local go_sem] Fl.run_store_float Tryd.float64bits Tryd.float64frombits

end Go.Proofs.YtlafccdaplgfoaaDoor
