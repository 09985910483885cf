/- The reference's In, Name. -/
import Derived.Test.YthaenobciefjiaaDoorJ2
namespace Go.Proofs.YthaenobciefjiaaDoor
open Go.RowKit

theorem Md.in_eq (s : Int) (k : Nat) (hk : k ≤ 8) : (bits .and .i64 (s / 2 ^ k) 1 == 1) = Md.inB s k := by
  rw [Md.shr_eq s k hk]
  unfold Md.inB
  rcases Nat.mod_two_eq_zero_or_one (Md.low s / 2 ^ k) with h | h <;> rw [h] <;> rfl

theorem Md.in_eq' (s d : Int) (k : Nat) (hk : k ≤ 8) (hd : d = 2 ^ k) : (bits .and .i64 (s / d) 1 == 1) = Md.inB s k := by
  subst hd
  exact Md.in_eq s k hk

set_option maxHeartbeats 1000000 in
theorem refIn_any (s : Int) (k : Nat) (w : World) (h : 1 ≤ k ∧ k ≤ 8) :
    Calls Tryd.prog 28 #[.int .i64 s, .int .i64 (k : Int)] w fun e w' => e = .returned (.bool (Md.inB s k)) ∧ w' = w := by
  obtain rfl | rfl | rfl | rfl | rfl | rfl | rfl | rfl : k = 1 ∨ k = 2 ∨ k = 3 ∨ k = 4 ∨ k = 5 ∨ k = 6 ∨ k = 7 ∨ k = 8 := by omega
  all_goals
    go_enter Tryd.func28, Tryd.ntmps28
    go_wp2
    go_ret
    exact ⟨congrArg (fun b => Ending.returned (Value.bool b)) (Md.in_eq' s _ _ (by omega) (by decide)), rfl⟩

end Go.Proofs.YthaenobciefjiaaDoor
