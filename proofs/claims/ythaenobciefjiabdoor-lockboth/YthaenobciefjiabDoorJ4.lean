/- The reference's In, Name. -/
import Derived.Test.YthaenobciefjiabDoorJ2
namespace Go.Proofs.YthaenobciefjiabDoor
open Go.RowKit

theorem Md.in_eq (s : Int) (k : Nat) (hk : k ≤ 8) : (bits .and .i64 (s / 2 ^ k) 1 == 1) = Md.inB s k := by
  rw [Md.shr_eq s k hk]
  unfold Md.inB
  rcases Nat.mod_two_eq_zero_or_one (Md.low s / 2 ^ k) with h | h <;> rw [h] <;> rfl

theorem Md.in_eq' (s d : Int) (k : Nat) (hk : k ≤ 8) (hd : d = 2 ^ k) : (bits .and .i64 (s / d) 1 == 1) = Md.inB s k := by
  subst hd
  exact Md.in_eq s k hk

end Go.Proofs.YthaenobciefjiabDoor
