/- Walks of package mode. -/
import Derived.Test.YthaenobciefjiaaDoorJ0
namespace Go.Proofs.YthaenobciefjiaaDoor
open Go.RowKit

/-- What the table holds. -/
structure Md.Tab (w : World) : Prop where
  c1 : w.cell? ⟨0, 1, none⟩ = some (.int .i64 256)
  c2 : w.cell? ⟨0, 2, none⟩ = some (.int .i64 384)
  c3 : w.cell? ⟨0, 3, none⟩ = some (.int .i64 480)
  c4 : w.cell? ⟨0, 4, none⟩ = some (.int .i64 496)
  c5 : w.cell? ⟨0, 5, none⟩ = some (.int .i64 472)
  c6 : w.cell? ⟨0, 6, none⟩ = some (.int .i64 504)
  c7 : w.cell? ⟨0, 7, none⟩ = some (.int .i64 508)
  c8 : w.cell? ⟨0, 8, none⟩ = some (.int .i64 510)

set_option maxHeartbeats 400000 in
theorem is_any (m : Int) (w : World) :
    Calls Tryd.prog 64 #[.int .i64 m] w fun e w' => e = .returned (.bool (Md.isB m)) ∧ w' = w := by
  cases h : decide (1 ≤ m)
  all_goals
    go_enter Tryd.func64, Tryd.ntmps64
    go_wp2
    go_ret
    exact ⟨by unfold Md.isB; rw [h]; rfl, rfl⟩

set_option maxHeartbeats 400000 in
theorem with_any (m : Int) (w : World) (hT : Md.Tab w) :
    Calls Tryd.prog 63 #[.int .i64 m] w fun e w' => e = .returned (.int .i64 (Md.withI m)) ∧ w' = w := by
  obtain ⟨c1, c2, c3, c4, c5, c6, c7, c8⟩ := hT
  rcases Md.cases m with rfl | rfl | rfl | rfl | rfl | rfl | rfl | rfl | ⟨hi, -, -, -, -, -, -, -, -, hw, -⟩
  case inr.inr.inr.inr.inr.inr.inr.inr =>
    go_enter Tryd.func63, Tryd.ntmps63
    go_wp2_with (go_at_call 64; refine (is_any _ _).mono ?_; rintro e w' ⟨rfl, rfl⟩)
    go_ret
    exact ⟨by rw [hw]; rfl, rfl⟩
  all_goals
    go_enter Tryd.func63, Tryd.ntmps63
    go_wp2_with (go_at_call 64; refine (is_any _ _).mono ?_; rintro e w' ⟨rfl, rfl⟩)
    go_ret
    exact ⟨rfl, rfl⟩

set_option maxHeartbeats 400000 in
theorem any_any (s m : Int) (w : World) (hT : Md.Tab w) :
    Calls Tryd.prog 52 #[.int .i64 s, .int .i64 m] w fun e w' => e = .returned (.bool (Md.anyB s m)) ∧ w' = w := by
  go_enter Tryd.func52, Tryd.ntmps52
  go_wp2_with (go_at_call 63; refine (with_any _ _ hT).mono ?_; rintro e w' ⟨rfl, rfl⟩)
  go_ret
  exact ⟨rfl, rfl⟩

theorem Md.bars_eq (a b : Int) (h : 1 ≤ b ∧ b ≤ 8) : Md.anyB (2 ^ b.toNat) a = Md.barsB a b := by
  have hb : b = 1 ∨ b = 2 ∨ b = 3 ∨ b = 4 ∨ b = 5 ∨ b = 6 ∨ b = 7 ∨ b = 8 := by omega
  rcases Md.cases a with rfl | rfl | rfl | rfl | rfl | rfl | rfl | rfl | ⟨hi, -, -, -, -, -, -, -, -, hw, hl⟩
  case inr.inr.inr.inr.inr.inr.inr.inr =>
    unfold Md.anyB Md.barsB
    rw [hw, hl]
    rcases hb with rfl | rfl | rfl | rfl | rfl | rfl | rfl | rfl <;> decide +kernel
  all_goals (rcases hb with rfl | rfl | rfl | rfl | rfl | rfl | rfl | rfl <;> decide +kernel)

theorem Md.bars_no (a b : Int) (h : Md.isB b = false) : Md.barsB a b = false := by
  have hb : ∀ k : Int, 1 ≤ k → k ≤ 8 → b ≠ k := fun k h1 h2 e => by subst e; simp [Md.isB, h1, h2] at h
  unfold Md.barsB Md.barL
  repeat' split
  all_goals simp [hb]

set_option maxHeartbeats 400000 in
theorem bars_any (a b : Int) (w : World) (hT : Md.Tab w) :
    Calls Tryd.prog 53 #[.int .i64 a, .int .i64 b] w fun e w' => e = .returned (.bool (Md.barsB a b)) ∧ w' = w := by
  rcases Md.cases b with rfl | rfl | rfl | rfl | rfl | rfl | rfl | rfl | ⟨hi, -, -, -, -, -, -, -, -, hw, -⟩
  case inr.inr.inr.inr.inr.inr.inr.inr =>
    rw [Md.bars_no a b hi]
    go_enter Tryd.func53, Tryd.ntmps53
    go_wp2_with (go_at_call 64; refine (is_any _ _).mono ?_; rintro e w' ⟨rfl, rfl⟩)
    go_ret
    exact ⟨rfl, rfl⟩
  all_goals
    rw [← Md.bars_eq a _ (by omega)]
    go_enter Tryd.func53, Tryd.ntmps53
    go_wp2_with (first | (go_at_call 64; refine (is_any _ _).mono ?_; rintro e w' ⟨rfl, rfl⟩) | (go_at_call 52; refine (any_any _ _ _ hT).mono ?_; rintro e w' ⟨rfl, rfl⟩))
    go_ret
    exact ⟨rfl, rfl⟩

end Go.Proofs.YthaenobciefjiaaDoor
