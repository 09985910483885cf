/- Walks of the statements' helpers. -/
import Derived.Test.YtaclkmhgbmencaaV2
import Derived.Deep.QuietTactic
import Derived.BigQuiet
namespace Go.Proofs.Ytaclkmhgbmencaa
open Go.RowKit
attribute [local go_sem] Fl.run_store_float Try.float64bits Try.float64frombits

theorem Vl.bdrewN {w w1 : World} (h : Below w.heap.size w w1) (n : Nat) : Below w.heap.size w (w1.drewN n) := ⟨h.os, h.tape, h.output, h.size, h.block⟩

set_option maxHeartbeats 400000 in
theorem largeValue_any (v : Vl.V) (w : World) :
    Calls Try.prog 28 #[.agg #[.int .i64 v.k, .int .i64 v.n, .float .f64 v.f, .string v.s]] w fun e w' => e = .returned (.bool (decide ((2000 : Int) < (v.s.size : Int)))) ∧ w' = w.alloc (.cells v.cs 25) := by
  go_enter Try.func28, Try.ntmps28
  go_wp2
  go_ret
  exact ⟨rfl, rfl⟩

set_option maxRecDepth 100000 in
set_option maxHeartbeats 2000000 in
theorem keepValue_same (v : Vl.V) (w : World) :
    Calls Try.prog 25 #[.agg #[.int .i64 v.k, .int .i64 v.n, .float .f64 v.f, .string v.s], .agg #[.int .i64 v.k, .int .i64 v.n, .float .f64 v.f, .string v.s]] w fun e w' => e = .returned (.bool true) ∧ Below w.heap.size w w' := by
  have hk : (v.k == v.k) = true := by simp
  have hn : (v.n == v.n) = true := by simp
  have hf : ((v.f : Int) == (v.f : Int)) = true := by simp
  have hs : (v.s.toList == v.s.toList) = true := by simp
  go_enter Try.func25, Try.ntmps25
  go_wp2_with fail
  go_quiet (fail)
  all_goals
    go_wp2
    go_ret
    exact ⟨rfl, by repeat (first | exact Below.refl _ _ | refine Vl.bal ?_ _ | refine Vl.bdrewN ?_ _)⟩

end Go.Proofs.Ytaclkmhgbmencaa
