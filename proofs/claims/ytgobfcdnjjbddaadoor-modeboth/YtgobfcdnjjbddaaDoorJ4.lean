/- The reference's In, Name. -/
import Derived.Test.YtgobfcdnjjbddaaDoorJ2
namespace Go.Proofs.YtgobfcdnjjbddaaDoor
open Go.RowKit

theorem Md.in_eq (s : Int) (k : Nat) (hk : k ≤ 8) : (bits .and .i64 (s / 2 ^ k) 1 == 1) = Md.inB s k := by
  rw [Md.shr_eq s k hk]
  unfold Md.inB
  rcases Nat.mod_two_eq_zero_or_one (Md.low s / 2 ^ k) with h | h <;> rw [h] <;> rfl

theorem Md.in_eq' (s d : Int) (k : Nat) (hk : k ≤ 8) (hd : d = 2 ^ k) : (bits .and .i64 (s / d) 1 == 1) = Md.inB s k := by
  subst hd
  exact Md.in_eq s k hk

set_option maxHeartbeats 1000000 in
theorem refIn_any (s : Int) (k : Nat) (w : World) (h : 1 ≤ k ∧ k ≤ 8) :
    Calls Tryd.prog 19 #[.int .i64 s, .int .i64 (k : Int)] w fun e w' => e = .returned (.bool (Md.inB s k)) ∧ w' = w := by
  obtain rfl | rfl | rfl | rfl | rfl | rfl | rfl | rfl : k = 1 ∨ k = 2 ∨ k = 3 ∨ k = 4 ∨ k = 5 ∨ k = 6 ∨ k = 7 ∨ k = 8 := by omega
  all_goals
    go_enter Tryd.func19, Tryd.ntmps19
    go_wp2
    go_ret
    exact ⟨congrArg (fun b => Ending.returned (Value.bool b)) (Md.in_eq' s _ _ (by omega) (by decide)), rfl⟩

set_option maxHeartbeats 1000000 in
theorem refName_any (m : Int) (w : World) :
    Calls Tryd.prog 13 #[.int .i64 m] w fun e w' => e = .returned (.string (Md.nameS m)) ∧ Below w.heap.size w w' := by
  rcases Md.cases m with rfl | rfl | rfl | rfl | rfl | rfl | rfl | rfl | ⟨hi, h1, h2, h3, h4, h5, h6, h7, h8, -, -⟩
  case inr.inr.inr.inr.inr.inr.inr.inr =>
    rw [Md.name_no m hi]
    cases hd : decide (m < 1)
    · have hd2 : decide (8 < m) = true := by simp [Md.isB] at hi hd ⊢; omega
      go_enter Tryd.func13, Tryd.ntmps13
      go_wp2
      go_ret
      exact ⟨rfl, Below.refl _ _⟩
    · go_enter Tryd.func13, Tryd.ntmps13
      go_wp2
      go_ret
      exact ⟨rfl, Below.refl _ _⟩
  all_goals
    go_enter Tryd.func13, Tryd.ntmps13
    go_wp2
    go_ret
    exact ⟨rfl, (Below.refl _ _).alloc (Nat.le_refl _) _⟩

end Go.Proofs.YtgobfcdnjjbddaaDoor
