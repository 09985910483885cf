/- The reference's With, Any. -/
import Derived.Test.YthaenobciefjiaaDoorJ3
import Derived.Test.YthaenobciefjiaaDoorJ4
namespace Go.Proofs.YthaenobciefjiaaDoor
open Go.RowKit

namespace Md
def sumL (l : List Int) : Int := (l.map fun v => (2 : Int) ^ v.toNat).sum
theorem sum_with (m : Int) : sumL (barL m) = withI m := by
  rcases cases m with rfl | rfl | rfl | rfl | rfl | rfl | rfl | rfl | ⟨-, -, -, -, -, -, -, -, -, hw, hl⟩
  case inr.inr.inr.inr.inr.inr.inr.inr => rw [hw, hl]; rfl
  all_goals decide +kernel
theorem sum_take {l : List Int} {k : Nat} {v : Int} (h : l[k]? = some v) : sumL (l.take (k + 1)) = sumL (l.take k) + 2 ^ v.toNat := by
  unfold sumL
  rw [List.take_add_one, h]
  simp
theorem bar_in {m v : Int} {k : Nat} (h : (barL m)[k]? = some v) : v = 1 ∨ v = 2 ∨ v = 3 ∨ v = 4 ∨ v = 5 ∨ v = 6 ∨ v = 7 ∨ v = 8 := by
  have hm := List.mem_of_getElem? h
  by_cases hi : isB v = true
  · unfold isB at hi
    simp only [Bool.and_eq_true, decide_eq_true_eq] at hi
    omega
  · have := bars_no m v (by simpa using hi)
    unfold barsB at this
    rw [Bool.eq_false_iff] at this
    exact absurd (List.contains_iff_mem.2 hm) this

theorem nz (n : Nat) : (((n : Nat) : Int) != 0) = (n != 0) := by
  cases n with
  | zero => rfl
  | succ n => rfl

theorem any_eq (s m : Int) : anyB s m = (List.range 9).any fun k => inB s k && barsB m (k : Int) := by
  unfold anyB inB
  rcases cases m with rfl | rfl | rfl | rfl | rfl | rfl | rfl | rfl | ⟨-, -, -, -, -, -, -, -, -, hw, hl⟩
  case inr.inr.inr.inr.inr.inr.inr.inr =>
    have e := and_eq s 0 (by omega)
    rw [show ((0 : Nat) : Int) = 0 from rfl] at e
    rw [hw, e]
    simp [barsB, hl]
  case inl => exact (congrArg (· != 0) (and_eq s 256 (by omega))).trans ((nz (low s &&& 256)).trans (any_table ⟨low s, low_lt s⟩ 1))
  case inr.inl => exact (congrArg (· != 0) (and_eq s 384 (by omega))).trans ((nz (low s &&& 384)).trans (any_table ⟨low s, low_lt s⟩ 2))
  case inr.inr.inl => exact (congrArg (· != 0) (and_eq s 480 (by omega))).trans ((nz (low s &&& 480)).trans (any_table ⟨low s, low_lt s⟩ 3))
  case inr.inr.inr.inl => exact (congrArg (· != 0) (and_eq s 496 (by omega))).trans ((nz (low s &&& 496)).trans (any_table ⟨low s, low_lt s⟩ 4))
  case inr.inr.inr.inr.inl => exact (congrArg (· != 0) (and_eq s 472 (by omega))).trans ((nz (low s &&& 472)).trans (any_table ⟨low s, low_lt s⟩ 5))
  case inr.inr.inr.inr.inr.inl => exact (congrArg (· != 0) (and_eq s 504 (by omega))).trans ((nz (low s &&& 504)).trans (any_table ⟨low s, low_lt s⟩ 6))
  case inr.inr.inr.inr.inr.inr.inl => exact (congrArg (· != 0) (and_eq s 508 (by omega))).trans ((nz (low s &&& 508)).trans (any_table ⟨low s, low_lt s⟩ 7))
  case inr.inr.inr.inr.inr.inr.inr.inl => exact (congrArg (· != 0) (and_eq s 510 (by omega))).trans ((nz (low s &&& 510)).trans (any_table ⟨low s, low_lt s⟩ 8))

theorem btr {a b c : World} (h : Below a.heap.size a b) (h' : Below b.heap.size b c) : Below a.heap.size a c := h.trans (h'.mono h.size)

theorem bars_zero (m : Int) : barsB m 0 = false := bars_no m 0 rfl
theorem any_hit {s m : Int} {k : Nat} (hk : k ≤ 8) (h1 : inB s k = true) (h2 : barsB m (k : Int) = true) : anyB s m = true := by
  rw [any_eq, List.any_eq_true]
  exact ⟨k, by simp; omega, by rw [h1, h2]; rfl⟩
theorem any_miss {s m : Int} (h : ∀ j : Nat, 1 ≤ j → j < 9 → (inB s j && barsB m (j : Int)) = false) : anyB s m = false := by
  rw [any_eq, List.any_eq_false]
  intro k hk
  simp only [List.mem_range] at hk
  rw [Bool.not_eq_true]
  rcases Nat.eq_zero_or_pos k with rfl | h0
  · rw [show ((0 : Nat) : Int) = 0 from rfl, bars_zero, Bool.and_false]
  · exact h k h0 hk
end Md

set_option maxRecDepth 100000 in
set_option maxHeartbeats 2000000 in
theorem refAny_any (s m : Int) (w : World) :
    Calls Tryd.prog 45 #[.int .i64 s, .int .i64 m] w fun e w' => e = .returned (.bool (Md.anyB s m)) ∧ Below w.heap.size w w' := by
  go_enter Tryd.func45, Tryd.ntmps45
  go_wp2_with fail
  go_loopw [5] (fun vi wr => ∃ k : Nat, 1 ≤ k ∧ k ≤ 9 ∧ vi = .int .i64 (k : Int) ∧ Hid (∀ j : Nat, 1 ≤ j → j < k → (Md.inB s j && Md.barsB m (j : Int)) = false) ∧ Hid (Below w.heap.size w wr)) (fun vi _ => 9 - (RowKit.intOf vi).toNat)
  case atStart => exact ⟨1, by omega, by omega, rfl, fun j h1 h2 => by omega, Below.refl _ _⟩
  case round =>
    obtain ⟨k, hk0, hk1, rfl, HI, HB⟩ := hrel
    rename World => wr
    by_cases hlt : k ≤ 8
    · have hd : decide ((k : Int) ≤ 8) = true := by simp; omega
      cases h1 : Md.inB s k
      · have H1 := Md.hid h1
        go_wp2_with (first | (go_at_call 28; refine (refIn_any _ _ _ (by omega)).mono ?_; rintro e w' ⟨rfl, hq⟩; obtain rfl := hq.symm; rw [H1.out]))
        refine ⟨⟨k + 1, by omega, by omega, by go_num, fun j a1 a2 => ?_, HB.out⟩, by simp [RowKit.intOf]; omega⟩
        by_cases e : j = k
        · subst e
          rw [H1.out]; rfl
        · exact HI.out j a1 (by omega)
      · have H1 := Md.hid h1
        cases h2 : Md.barsB m (k : Int)
        · have H2 := Md.hid h2
          go_wp2_with (first | (go_at_call 28; refine (refIn_any _ _ _ (by omega)).mono ?_; rintro e w' ⟨rfl, hq⟩; obtain rfl := hq.symm; rw [H1.out]) | (go_at_call 47; refine (refBars_any _ _ _).mono ?_; rintro e w2 ⟨rfl, hb⟩; rw [H2.out]; have HB2 := Md.hid (Md.btr HB.out hb); clear hb))
          refine ⟨⟨k + 1, by omega, by omega, by go_num, fun j a1 a2 => ?_, HB2.out⟩, by simp [RowKit.intOf]; omega⟩
          by_cases e : j = k
          · subst e
            rw [H2.out, Bool.and_false]
          · exact HI.out j a1 (by omega)
        · have H2 := Md.hid h2
          have HE := Md.hid (Md.any_hit (by omega) H1.out H2.out)
          go_wp2_with (first | (go_at_call 28; refine (refIn_any _ _ _ (by omega)).mono ?_; rintro e w' ⟨rfl, hq⟩; obtain rfl := hq.symm; rw [H1.out]) | (go_at_call 47; refine (refBars_any _ _ _).mono ?_; rintro e w2 ⟨rfl, hb⟩; rw [H2.out]; have HB2 := Md.hid (Md.btr HB.out hb); clear hb))
          go_ret
          exact ⟨by rw [HE.out]; rfl, HB2.out⟩
    · obtain rfl : k = 9 := by omega
      have HE := Md.hid (Md.any_miss HI.out)
      go_wp2_with fail
      go_ret
      exact ⟨by rw [HE.out]; rfl, HB.out⟩

end Go.Proofs.YthaenobciefjiaaDoor
