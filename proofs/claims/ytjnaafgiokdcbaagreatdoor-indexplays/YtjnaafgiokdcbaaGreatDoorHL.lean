/- Walks of the statements' helpers. -/
import Derived.Test.YtjnaafgiokdcbaaGreatDoorHC
import Derived.Deep.QuietTactic
import Derived.BigQuiet
namespace Go.Proofs.YtjnaafgiokdcbaaGreatDoor
open Go.RowKit
attribute [local go_sem] Fl.run_store_float Tryz.float64bits Tryz.float64frombits

theorem Vl.bdrewN {w w1 : World} (h : Below w.heap.size w w1) (n : Nat) : Below w.heap.size w (w1.drewN n) := ⟨h.os, h.tape, h.output, h.size, h.block⟩

set_option maxHeartbeats 400000 in
theorem largeValue_any (v : Vl.V) (w : World) :
    Calls Tryz.prog 29 #[.agg #[.int .i64 v.k, .int .i64 v.n, .float .f64 v.f, .string v.s]] w fun e w' => e = .returned (.bool (decide ((2000 : Int) < (v.s.size : Int)))) ∧ w' = w.alloc (.cells v.cs 34) := by
  go_enter Tryz.func29, Tryz.ntmps29
  go_wp2
  go_ret
  exact ⟨rfl, rfl⟩

end Go.Proofs.YtjnaafgiokdcbaaGreatDoor
