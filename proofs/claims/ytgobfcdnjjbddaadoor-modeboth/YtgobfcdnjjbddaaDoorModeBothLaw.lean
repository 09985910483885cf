/- The walk of the law ModeBoth. -/
import Derived.Test.YtgobfcdnjjbddaaDoorJ6
namespace Go.Proofs.YtgobfcdnjjbddaaDoor
open Go.RowKit

theorem Md.both_table : ∀ (x y : Fin 9), x.val = 0 ∨ y.val = 0 ∨ (Md.barsB x.val y.val = Md.barsB y.val x.val ∧ Md.barsB 8 x.val = true ∧ Md.barsB 1 x.val = ((x.val : Int) == 8) ∧ Md.barsB x.val y.val = (bits .and .i64 (Md.withI x.val / 2 ^ y.val) 1 == 1) ∧ Md.barsB x.val y.val = Md.anyB (2 ^ y.val) x.val ∧ Md.anyB (Md.withI x.val) x.val = true) := by
  decide +kernel

theorem Md.both (x y : Int) (hx : 1 ≤ x ∧ x ≤ 8) (hy : 1 ≤ y ∧ y ≤ 8) : Md.barsB x y = Md.barsB y x ∧ Md.barsB 8 x = true ∧ Md.barsB 1 x = (x == 8) ∧ Md.barsB x y = (bits .and .i64 (Md.withI x / 2 ^ y.toNat) 1 == 1) ∧ Md.barsB x y = Md.anyB (2 ^ y.toNat) x ∧ Md.anyB (Md.withI x) x = true := by
  obtain ⟨n, rfl⟩ : ∃ n : Nat, x = (n : Int) := ⟨x.toNat, by omega⟩
  obtain ⟨m, rfl⟩ : ∃ m : Nat, y = (m : Int) := ⟨y.toNat, by omega⟩
  rcases Md.both_table ⟨n, by omega⟩ ⟨m, by omega⟩ with h | h | h
  · exact absurd h (by show ¬ n = 0; omega)
  · exact absurd h (by show ¬ m = 0; omega)
  · exact h

set_option maxRecDepth 100000 in
set_option maxHeartbeats 4000000 in
theorem modeBoth_walk (a b : Nat) (ha : a < 256) (hb : b < 256) (w : World) (hT : Md.Tab w) :
    Calls Tryd.prog 4 #[.int .u8 (a : Int), .int .u8 (b : Int)] w fun e w' => e = .returned (.bool true) ∧ Below w.heap.size w w' := by
  have HT := Md.hid hT
  clear hT
  go_enter Tryd.func4, Tryd.ntmps4
  go_wp2_with fail
  have hx : 1 ≤ 1 + (a : Int) % 8 ∧ 1 + (a : Int) % 8 ≤ 8 := by omega
  have hy : 1 ≤ 1 + (b : Int) % 8 ∧ 1 + (b : Int) % 8 ≤ 8 := by omega
  generalize 1 + (a : Int) % 8 = x at *
  generalize 1 + (b : Int) % 8 = y at *
  obtain ⟨hx0, hx1⟩ := hx
  obtain ⟨hy0, hy1⟩ := hy
  obtain ⟨f1, f2, f3, f4, f5, f6⟩ := Md.both x y ⟨hx0, hx1⟩ ⟨hy0, hy1⟩
  have hw : RowKit.wrap64 (2 ^ y.toNat) = 2 ^ y.toNat := by
    obtain rfl | rfl | rfl | rfl | rfl | rfl | rfl | rfl : y = 1 ∨ y = 2 ∨ y = 3 ∨ y = 4 ∨ y = 5 ∨ y = 6 ∨ y = 7 ∨ y = 8 := by omega
    all_goals decide +kernel
  rw [← hw] at f5
  have g7 : Md.barsB 1 8 = true := by decide +kernel
  clear hw
  refine (bars_any _ _ _ HT.out).mono ?_
  rintro e w' ⟨rfl, hq⟩; obtain rfl := hq.symm
  cases hB : Md.barsB x y <;> cases h8 : (x == 8) <;> cases hc : (x != 1)
  all_goals
    have b1 := hB
    rw [f1] at b1
    have b4 := hB
    rw [f4] at b4
    have b5 := hB
    rw [f5] at b5
    rw [h8] at f3
    clear f1 f4 f5 hq
    go_wp2_with (first
      | (go_at_call 6; refine (bars_any _ _ _ HT.out).mono ?_; rintro e w' ⟨rfl, hq⟩; obtain rfl := hq.symm; first | rw [hB] | rw [b1] | rw [f2] | rw [f3] | rw [g7])
      | (go_at_call 8; refine (with_any _ _ HT.out).mono ?_; rintro e w' ⟨rfl, hq⟩; obtain rfl := hq.symm)
      | (go_at_call 10; refine (any_any _ _ _ HT.out).mono ?_; rintro e w' ⟨rfl, hq⟩; obtain rfl := hq.symm; first | rw [b5] | rw [f6])
      | (go_at_call 16; refine (wakes_any _ HT.out).mono ?_; rintro e w' ⟨rfl, hq⟩; obtain rfl := hq.symm))
    go_ret
    exact ⟨rfl, Below.refl _ _⟩

end Go.Proofs.YtgobfcdnjjbddaaDoor
