/- Walks of float.From, Next, of their reference twins, of package math's small functions. -/
import Derived.Test.YtaclkmhgbmencaaW1
namespace Go.Proofs.Ytaclkmhgbmencaa
open Go.RowKit
attribute [local go_sem] Fl.lss_eq Fl.gtr_eq Fl.eql_eq Fl.neq_eq Fl.eqB_self Try.float64bits Try.float64frombits

set_option maxHeartbeats 400000 in
theorem canonical_any (n : Nat) (w : World) :
    Calls Try.prog 66 #[.int .u64 (n : Int)] w fun e w' => e = .returned (.tuple #[.float .f64 (Fl.gotN n), .bool (Fl.isB n)]) ∧ w' = w := by
  cases h : Fl.isB n
  all_goals
    go_enter Try.func66, Try.ntmps66
    go_wp2_with (go_at_call 61; refine (is_any _ _).mono ?_; rintro e w' ⟨rfl, rfl⟩)
    go_ret2
    exact ⟨by unfold Fl.gotN; rw [h]; rfl, rfl⟩

set_option maxHeartbeats 400000 in
theorem from_any (u : Nat) (w : World) (hu : u < 18446744073709551616) :
    Calls Try.prog 63 #[.int .u64 (u : Int)] w fun e w' => e = .returned (.tuple #[.float .f64 (Fl.gotN (Fl.unbN u)), .bool (Fl.isB (Fl.unbN u))]) ∧ w' = w := by
  go_enter Try.func63, Try.ntmps63
  go_wp2_with fail
  · rw [Fl.unb_high hu ‹_›]
    refine (canonical_any _ _).mono ?_
    rintro e w' ⟨rfl, rfl⟩
    go_wp2
    go_ret2
    exact ⟨rfl, rfl⟩
  · rw [Fl.unb_low hu ‹_›]
    refine (canonical_any _ _).mono ?_
    rintro e w' ⟨rfl, rfl⟩
    go_wp2
    go_ret2
    exact ⟨rfl, rfl⟩

end Go.Proofs.Ytaclkmhgbmencaa
