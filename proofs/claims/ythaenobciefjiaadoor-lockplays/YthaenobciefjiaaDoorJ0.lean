/- Modes, plain: which bar which, as a set, as a list; names; what a statement takes. -/
import Derived.Test.YthaenobciefjiaaDoorRows
import Derived.WalkKit
import Derived.WalkSpells
import Derived.WalkLawsBesides
import Derived.Laws.BitsAllLaws
namespace Go.Proofs.YthaenobciefjiaaDoor
open Go.RowKit

namespace Md
/-- Is it a mode? -/
def isB (m : Int) : Bool := decide (1 ≤ m) && decide (m ≤ 8)
/-- The set that a mode bars. -/
def withI (m : Int) : Int := if m = 1 then 256 else if m = 2 then 384 else if m = 3 then 480 else if m = 4 then 496 else if m = 5 then 472 else if m = 6 then 504 else if m = 7 then 508 else if m = 8 then 510 else 0
/-- The modes that a mode bars. -/
def barL (m : Int) : List Int := if m = 1 then [8] else if m = 2 then [7, 8] else if m = 3 then [5, 6, 7, 8] else if m = 4 then [4, 5, 6, 7, 8] else if m = 5 then [3, 4, 6, 7, 8] else if m = 6 then [3, 4, 5, 6, 7, 8] else if m = 7 then [2, 3, 4, 5, 6, 7, 8] else if m = 8 then [1, 2, 3, 4, 5, 6, 7, 8] else []
/-- Does a mode bar one of a set? -/
def anyB (s m : Int) : Bool := bits .and .i64 s (withI m) != 0
/-- Do two modes bar each other? -/
def barsB (a b : Int) : Bool := (barL a).contains b

theorem cases (m : Int) : m = 1 ∨ m = 2 ∨ m = 3 ∨ m = 4 ∨ m = 5 ∨ m = 6 ∨ m = 7 ∨ m = 8 ∨ (isB m = false ∧ (m == 1) = false ∧ (m == 2) = false ∧ (m == 3) = false ∧ (m == 4) = false ∧ (m == 5) = false ∧ (m == 6) = false ∧ (m == 7) = false ∧ (m == 8) = false ∧ withI m = 0 ∧ barL m = []) := by
  by_cases h : 1 ≤ m ∧ m ≤ 8
  · omega
  · have e : ∀ k : Int, 1 ≤ k → k ≤ 8 → m ≠ k := fun k h1 h2 => by omega
    refine Or.inr (Or.inr (Or.inr (Or.inr (Or.inr (Or.inr (Or.inr (Or.inr ⟨?_, ?_⟩)))))))
    · simp only [isB, Bool.and_eq_false_iff, decide_eq_false_iff_not]; omega
    · simp [withI, barL, e 1, e 2, e 3, e 4, e 5, e 6, e 7, e 8]

/-- The low bits of a set decide. -/
theorem and_low (s k : Nat) (hk : k < 512) : s &&& k = (s % 512) &&& k := by
  have h : k = k &&& 511 := by rw [show (511 : Nat) = 2 ^ 9 - 1 from rfl, Nat.and_two_pow_sub_one_eq_mod]; omega
  have h2 : s % 512 = s &&& 511 := by rw [show (511 : Nat) = 2 ^ 9 - 1 from rfl, Nat.and_two_pow_sub_one_eq_mod]
  rw [h2, Nat.and_assoc, Nat.and_comm 511, ← h]

/-- A set's bits, as a number from 0 on. -/
def low (s : Int) : Nat := (s % 512).toNat
theorem low_lt (s : Int) : low s < 512 := by unfold low; omega

theorem and_eq (s : Int) (k : Nat) (hk : k < 512) : bits .and .i64 s (k : Int) = ((low s &&& k : Nat) : Int) := by
  have e1 : (BitVec.ofInt 64 s).toNat % 512 = low s := by
    rw [BitVec.toNat_ofInt]; unfold low
    omega
  have e2 : (BitVec.ofInt 64 (k : Int)).toNat = k := by
    rw [BitVec.toNat_ofInt]; omega
  have e3 : (BitVec.ofInt 64 s &&& BitVec.ofInt 64 (k : Int)).toNat = low s &&& k := by
    rw [BitVec.toNat_and, e2, and_low _ _ hk, e1]
  have e4 : low s &&& k < 512 := Nat.lt_of_le_of_lt Nat.and_le_right hk
  show IntKind.i64.wrap (((BitVec.ofInt 64 s &&& BitVec.ofInt 64 (k : Int)).toNat : Nat) : Int) = _
  rw [e3, IntKind.wrap_i64]
  omega

theorem shr_eq (s : Int) (k : Nat) (hk : k ≤ 8) : bits .and .i64 (s / 2 ^ k) 1 = ((low s / 2 ^ k % 2 : Nat) : Int) := by
  have h := and_eq (s / 2 ^ k) 1 (by omega)
  rw [show ((1 : Nat) : Int) = 1 from rfl] at h
  rw [h, Nat.and_one_is_mod]
  unfold low
  obtain rfl | rfl | rfl | rfl | rfl | rfl | rfl | rfl | rfl : k = 0 ∨ k = 1 ∨ k = 2 ∨ k = 3 ∨ k = 4 ∨ k = 5 ∨ k = 6 ∨ k = 7 ∨ k = 8 := by omega
  all_goals (simp only [Nat.reducePow, Int.reducePow]; omega)

/-- Is a mode in a set? -/
def inB (s : Int) (k : Nat) : Bool := low s / 2 ^ k % 2 == 1

theorem any_table : ∀ (s : Fin 512) (m : Fin 9), ((s.val &&& (withI (m.val : Int)).toNat) != 0) = ((List.range 9).any fun k => (s.val / 2 ^ k % 2 == 1) && barsB (m.val : Int) (k : Int)) := by
  decide +kernel

end Md
end Go.Proofs.YthaenobciefjiaaDoor
