/- The walk of the law ModeSets. -/
import Derived.Test.YtgobfcdnjjbddaaDoorJ6
namespace Go.Proofs.YtgobfcdnjjbddaaDoor
open Go.RowKit

theorem Md.in_bit (s : Int) (k : Nat) : Md.inB s k = (Md.low s).testBit k := by
  unfold Md.inB
  rw [Nat.testBit_eq_decide_div_mod_eq]
  rfl

theorem Md.low_or (x y : Nat) (hx : x < 65536) (hy : y < 65536) : Md.low (bits .or .i64 (x : Int) (y : Int)) = Md.low (x : Int) ||| Md.low (y : Int) := by
  have e1 : (BitVec.ofInt 64 (x : Int)).toNat = x := by rw [BitVec.toNat_ofInt]; omega
  have e2 : (BitVec.ofInt 64 (y : Int)).toNat = y := by rw [BitVec.toNat_ofInt]; omega
  have e3 : (BitVec.ofInt 64 (x : Int) ||| BitVec.ofInt 64 (y : Int)).toNat = x ||| y := by rw [BitVec.toNat_or, e1, e2]
  have e4 : x ||| y < 2 ^ 16 := Nat.or_lt_two_pow hx hy
  have e5 : bits .or .i64 (x : Int) (y : Int) = ((x ||| y : Nat) : Int) := by
    show IntKind.i64.wrap (((BitVec.ofInt 64 (x : Int) ||| BitVec.ofInt 64 (y : Int)).toNat : Nat) : Int) = _
    rw [e3, IntKind.wrap_i64]
    omega
  have l : ∀ n : Nat, Md.low (n : Int) = n % 2 ^ 9 := fun n => by unfold Md.low; omega
  rw [e5, l, l, l, Nat.or_mod_two_pow]

theorem Md.any_or (x y : Nat) (hx : x < 65536) (hy : y < 65536) (k : Int) : Md.anyB (bits .or .i64 (x : Int) (y : Int)) k = (Md.anyB (x : Int) k || Md.anyB (y : Int) k) := by
  have e : ∀ j, (Md.inB (bits .or .i64 (x : Int) (y : Int)) j && Md.barsB k (j : Int)) = ((Md.inB (x : Int) j && Md.barsB k (j : Int)) || (Md.inB (y : Int) j && Md.barsB k (j : Int))) := fun j => by
    rw [Md.in_bit, Md.in_bit, Md.in_bit, Md.low_or x y hx hy, Nat.testBit_or, Bool.and_or_distrib_right]
  rw [Md.any_eq, Md.any_eq, Md.any_eq]
  simp only [e]
  generalize List.range 9 = l
  induction l with
  | nil => rfl
  | cons j l ih =>
    simp only [List.any_cons, ih]
    cases (Md.inB (x : Int) j && Md.barsB k (j : Int)) <;> cases (Md.inB (y : Int) j && Md.barsB k (j : Int)) <;> simp

theorem Md.any_none (k : Int) : Md.anyB 0 k = false := by
  rcases Md.cases k with rfl | rfl | rfl | rfl | rfl | rfl | rfl | rfl | ⟨-, -, -, -, -, -, -, -, -, hw, hl⟩
  case inr.inr.inr.inr.inr.inr.inr.inr => unfold Md.anyB; rw [hw]; decide +kernel
  all_goals decide +kernel

set_option maxRecDepth 100000 in
set_option maxHeartbeats 4000000 in
theorem modeSets_walk (a b m : Nat) (ha : a < 65536) (hb : b < 65536) (hm : m < 256) (w : World) (hT : Md.Tab w) :
    Calls Tryd.prog 5 #[.int .u16 (a : Int), .int .u16 (b : Int), .int .u8 (m : Int)] w fun e w' => e = .returned (.bool true) ∧ Below w.heap.size w w' := by
  have HT := Md.hid hT
  clear hT
  have HO := Md.hid (Md.any_or a b ha hb ((m : Int) % 10))
  have e0 := Md.any_none ((m : Int) % 10)
  cases h1 : Md.anyB (a : Int) ((m : Int) % 10)
  · have h2 : (Md.anyB (bits .or .i64 (a : Int) (b : Int)) ((m : Int) % 10) == Md.anyB (b : Int) ((m : Int) % 10)) = true := by rw [HO.out, h1]; simp
    go_enter Tryd.func5, Tryd.ntmps5
    go_wp2_with (first
      | (go_at_call 10; refine (any_any _ _ _ HT.out).mono ?_; rintro e w' ⟨rfl, hq⟩; obtain rfl := hq.symm)
      | (go_at_call 16; refine (wakes_any _ HT.out).mono ?_; rintro e w' ⟨rfl, hq⟩; obtain rfl := hq.symm))
    go_ret
    exact ⟨rfl, Below.refl _ _⟩
  · have h2 : Md.anyB (bits .or .i64 (a : Int) (b : Int)) ((m : Int) % 10) = true := by rw [HO.out, h1]; simp
    go_enter Tryd.func5, Tryd.ntmps5
    go_wp2_with (first
      | (go_at_call 10; refine (any_any _ _ _ HT.out).mono ?_; rintro e w' ⟨rfl, hq⟩; obtain rfl := hq.symm)
      | (go_at_call 16; refine (wakes_any _ HT.out).mono ?_; rintro e w' ⟨rfl, hq⟩; obtain rfl := hq.symm))
    go_ret
    exact ⟨rfl, Below.refl _ _⟩

end Go.Proofs.YtgobfcdnjjbddaaDoor
