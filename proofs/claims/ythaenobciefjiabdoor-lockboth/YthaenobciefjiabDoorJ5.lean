/- The reference's With, Any. -/
import Derived.Test.YthaenobciefjiabDoorJ3
import Derived.Test.YthaenobciefjiabDoorJ4
namespace Go.Proofs.YthaenobciefjiabDoor
open Go.RowKit

namespace Md
def sumL (l : List Int) : Int := (l.map fun v => (2 : Int) ^ v.toNat).sum
theorem sum_with (m : Int) : sumL (barL m) = withI m := by
  rcases cases m with rfl | rfl | rfl | rfl | rfl | rfl | rfl | rfl | ⟨-, -, -, -, -, -, -, -, -, hw, hl⟩
  case inr.inr.inr.inr.inr.inr.inr.inr => rw [hw, hl]; rfl
  all_goals decide +kernel
theorem sum_take {l : List Int} {k : Nat} {v : Int} (h : l[k]? = some v) : sumL (l.take (k + 1)) = sumL (l.take k) + 2 ^ v.toNat := by
  unfold sumL
  rw [List.take_add_one, h]
  simp
theorem bar_in {m v : Int} {k : Nat} (h : (barL m)[k]? = some v) : v = 1 ∨ v = 2 ∨ v = 3 ∨ v = 4 ∨ v = 5 ∨ v = 6 ∨ v = 7 ∨ v = 8 := by
  have hm := List.mem_of_getElem? h
  by_cases hi : isB v = true
  · unfold isB at hi
    simp only [Bool.and_eq_true, decide_eq_true_eq] at hi
    omega
  · have := bars_no m v (by simpa using hi)
    unfold barsB at this
    rw [Bool.eq_false_iff] at this
    exact absurd (List.contains_iff_mem.2 hm) this

theorem nz (n : Nat) : (((n : Nat) : Int) != 0) = (n != 0) := by
  cases n with
  | zero => rfl
  | succ n => rfl

theorem any_eq (s m : Int) : anyB s m = (List.range 9).any fun k => inB s k && barsB m (k : Int) := by
  unfold anyB inB
  rcases cases m with rfl | rfl | rfl | rfl | rfl | rfl | rfl | rfl | ⟨-, -, -, -, -, -, -, -, -, hw, hl⟩
  case inr.inr.inr.inr.inr.inr.inr.inr =>
    have e := and_eq s 0 (by omega)
    rw [show ((0 : Nat) : Int) = 0 from rfl] at e
    rw [hw, e]
    simp [barsB, hl]
  case inl => exact (congrArg (· != 0) (and_eq s 256 (by omega))).trans ((nz (low s &&& 256)).trans (any_table ⟨low s, low_lt s⟩ 1))
  case inr.inl => exact (congrArg (· != 0) (and_eq s 384 (by omega))).trans ((nz (low s &&& 384)).trans (any_table ⟨low s, low_lt s⟩ 2))
  case inr.inr.inl => exact (congrArg (· != 0) (and_eq s 480 (by omega))).trans ((nz (low s &&& 480)).trans (any_table ⟨low s, low_lt s⟩ 3))
  case inr.inr.inr.inl => exact (congrArg (· != 0) (and_eq s 496 (by omega))).trans ((nz (low s &&& 496)).trans (any_table ⟨low s, low_lt s⟩ 4))
  case inr.inr.inr.inr.inl => exact (congrArg (· != 0) (and_eq s 472 (by omega))).trans ((nz (low s &&& 472)).trans (any_table ⟨low s, low_lt s⟩ 5))
  case inr.inr.inr.inr.inr.inl => exact (congrArg (· != 0) (and_eq s 504 (by omega))).trans ((nz (low s &&& 504)).trans (any_table ⟨low s, low_lt s⟩ 6))
  case inr.inr.inr.inr.inr.inr.inl => exact (congrArg (· != 0) (and_eq s 508 (by omega))).trans ((nz (low s &&& 508)).trans (any_table ⟨low s, low_lt s⟩ 7))
  case inr.inr.inr.inr.inr.inr.inr.inl => exact (congrArg (· != 0) (and_eq s 510 (by omega))).trans ((nz (low s &&& 510)).trans (any_table ⟨low s, low_lt s⟩ 8))

theorem btr {a b c : World} (h : Below a.heap.size a b) (h' : Below b.heap.size b c) : Below a.heap.size a c := h.trans (h'.mono h.size)

theorem bars_zero (m : Int) : barsB m 0 = false := bars_no m 0 rfl
theorem any_hit {s m : Int} {k : Nat} (hk : k ≤ 8) (h1 : inB s k = true) (h2 : barsB m (k : Int) = true) : anyB s m = true := by
  rw [any_eq, List.any_eq_true]
  exact ⟨k, by simp; omega, by rw [h1, h2]; rfl⟩
theorem any_miss {s m : Int} (h : ∀ j : Nat, 1 ≤ j → j < 9 → (inB s j && barsB m (j : Int)) = false) : anyB s m = false := by
  rw [any_eq, List.any_eq_false]
  intro k hk
  simp only [List.mem_range] at hk
  rw [Bool.not_eq_true]
  rcases Nat.eq_zero_or_pos k with rfl | h0
  · rw [show ((0 : Nat) : Int) = 0 from rfl, bars_zero, Bool.and_false]
  · exact h k h0 hk
end Md

end Go.Proofs.YthaenobciefjiabDoor
