/- Walks of float.From, Next, of their reference twins, of package math's small functions. -/
import Derived.Test.YtamefmblpncmeabDoorW1
namespace Go.Proofs.YtamefmblpncmeabDoor
open Go.RowKit
attribute [local go_sem] Fl.lss_eq Fl.gtr_eq Fl.eql_eq Fl.neq_eq Fl.eqB_self Tryd.float64bits Tryd.float64frombits

set_option maxHeartbeats 400000 in
theorem canonical_any (n : Nat) (w : World) :
    Calls Tryd.prog 26 #[.int .u64 (n : Int)] w fun e w' => e = .returned (.tuple #[.float .f64 (Fl.gotN n), .bool (Fl.isB n)]) ∧ w' = w := by
  cases h : Fl.isB n
  all_goals
    go_enter Tryd.func26, Tryd.ntmps26
    go_wp2_with (go_at_call 34; refine (is_any _ _).mono ?_; rintro e w' ⟨rfl, rfl⟩)
    go_ret2
    exact ⟨by unfold Fl.gotN; rw [h]; rfl, rfl⟩

set_option maxHeartbeats 400000 in
theorem from_any (u : Nat) (w : World) (hu : u < 18446744073709551616) :
    Calls Tryd.prog 22 #[.int .u64 (u : Int)] w fun e w' => e = .returned (.tuple #[.float .f64 (Fl.gotN (Fl.unbN u)), .bool (Fl.isB (Fl.unbN u))]) ∧ w' = w := by
  go_enter Tryd.func22, Tryd.ntmps22
  go_wp2_with fail
  · rw [Fl.unb_high hu ‹_›]
    refine (canonical_any _ _).mono ?_
    rintro e w' ⟨rfl, rfl⟩
    go_wp2
    go_ret2
    exact ⟨rfl, rfl⟩
  · rw [Fl.unb_low hu ‹_›]
    refine (canonical_any _ _).mono ?_
    rintro e w' ⟨rfl, rfl⟩
    go_wp2
    go_ret2
    exact ⟨rfl, rfl⟩

set_option maxHeartbeats 400000 in
theorem nan_any (w : World) :
    Calls Tryd.prog 15 #[] w fun e w' => e = .returned (.float .f64 9221120237041090561) ∧ w' = w := by
  go_enter Tryd.func15, Tryd.ntmps15
  go_wp2
  go_ret
  exact ⟨rfl, rfl⟩

set_option maxHeartbeats 400000 in
theorem inf_any (w : World) :
    Calls Tryd.prog 16 #[.int .i64 1] w fun e w' => e = .returned (.float .f64 9218868437227405312) ∧ w' = w := by
  go_enter Tryd.func16, Tryd.ntmps16
  go_wp2
  go_ret
  exact ⟨rfl, rfl⟩

set_option maxHeartbeats 400000 in
theorem isInf_any (x : Nat) (w : World) :
    Calls Tryd.prog 21 #[.float .f64 x, .int .i64 1] w fun e w' => e = .returned (.bool (Fl.ltB 9218868437227405311 x)) ∧ w' = w := by
  go_enter Tryd.func21, Tryd.ntmps21
  go_wp2
  go_ret
  exact ⟨rfl, rfl⟩

set_option maxHeartbeats 400000 in
theorem copysign_zero (w : World) :
    Calls Tryd.prog 18 #[.float .f64 0, .float .f64 13830554455654793216] w fun e w' => e = .returned (.float .f64 9223372036854775808) ∧ w' = w := by
  go_enter Tryd.func18, Tryd.ntmps18
  go_wp2
  go_ret
  exact ⟨congrArg (fun n => Ending.returned (Value.float .f64 n)) (by decide +kernel), rfl⟩

set_option maxHeartbeats 400000 in
theorem copysign_one (w : World) :
    Calls Tryd.prog 18 #[.float .f64 1, .float .f64 9218868437227405312] w fun e w' => e = .returned (.float .f64 1) ∧ w' = w := by
  go_enter Tryd.func18, Tryd.ntmps18
  go_wp2
  go_ret
  exact ⟨congrArg (fun n => Ending.returned (Value.float .f64 n)) (by decide +kernel), rfl⟩

set_option maxHeartbeats 400000 in
theorem same_any (x y : Nat) (w : World) :
    Calls Tryd.prog 7 #[.float .f64 x, .float .f64 y] w fun e w' => e = .returned (.bool (x == y)) ∧ w' = w := by
  go_enter Tryd.func7, Tryd.ntmps7
  go_wp2
  go_ret
  exact ⟨congrArg (fun n => Ending.returned (Value.bool n)) (by rw [Bool.eq_iff_iff]; simp; omega), rfl⟩

end Go.Proofs.YtamefmblpncmeabDoor
