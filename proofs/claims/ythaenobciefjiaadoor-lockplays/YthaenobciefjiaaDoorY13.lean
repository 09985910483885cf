/- LockPlays: the walk, whole. -/
import Derived.Test.YthaenobciefjiaaDoorY11
import Derived.Test.YthaenobciefjiaaDoorY12
namespace Go.Proofs.YthaenobciefjiaaDoor
open Go.RowKit

theorem refRelease_ok : Lk.RelOk := fun X W T r x h1 h2 h3 h4 => refRelease_any X W T r x h1 h2 h3 h4

theorem lockPlays_all (a0 : Option Addr) (n0 c0 : Nat) (xs : List Lk.Stp) (w : World) (hS0 : Lk.Stps w a0 n0 c0 xs) (hM0 : Md.Tab w) :
    Calls Tryd.prog 3 #[.slice a0 n0 c0] w fun e w' => e = .returned (.bool true) ∧ Below w.heap.size w w' := lockPlays_walk refRelease_ok a0 n0 c0 xs w hS0 hM0

end Go.Proofs.YthaenobciefjiaaDoor
