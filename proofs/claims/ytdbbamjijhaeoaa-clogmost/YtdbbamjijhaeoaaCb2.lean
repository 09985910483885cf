/- ClogMost. -/
import Derived.Test.YtdbbamjijhaeoaaCp0
namespace Go.Proofs.Ytdbbamjijhaeoaa
open Go.RowKit

namespace Cg
/-- So many have begun. -/
def bs (r : Bool) : Nat → S
  | 0 => s0
  | i + 1 => begS (bs r i) r
theorem bs_inv (r : Bool) : ∀ i, Inv (bs r i)
  | 0 => inv0
  | i + 1 => (bs_inv r i).begS r
theorem bs_step (r : Bool) : ∀ i, i < 200 → (bs r i).n = i ∧ (∀ k, 1 ≤ k → k ≤ i → ((bs r i).f k).st = 1) → bs r (i + 1) = beg (bs r i) r := fun i hi h => by
  show begS (bs r i) r = _
  unfold begS
  rw [if_neg (by rw [h.1]; omega)]
theorem bs_n (r : Bool) : ∀ i, i ≤ 200 → (bs r i).n = i ∧ (∀ k, 1 ≤ k → k ≤ i → ((bs r i).f k).st = 1)
  | 0, _ => ⟨rfl, fun k h1 h2 => by omega⟩
  | i + 1, h => by
    have ih := bs_n r i (by omega)
    rw [bs_step r i (by omega) ih]
    refine ⟨by show (bs r i).n + 1 = _; rw [ih.1], fun k h1 h2 => ?_⟩
    show (upd (bs r i).f ((bs r i).n + 1) _ k).st = 1
    rw [ih.1]
    by_cases e : k = i + 1
    · rw [e, upd_same]
    · rw [upd_other _ _ e]; exact ih.2 k h1 (by omega)
theorem runs_all (f : Nat → Tx) : ∀ n, (∀ k, 1 ≤ k → k ≤ n → (f k).st = 1) → (runs f n).length = n
  | 0, _ => rfl
  | n + 1, h => by
    simp only [runs, List.length_append]
    rw [runs_all f n (fun k h1 h2 => h k h1 (by omega)), if_pos (h (n + 1) (by omega) (Nat.le_refl _))]
    rfl
theorem bs_all (r : Bool) : (running (bs r 200)).length = 200 := by
  have h := bs_n r 200 (Nat.le_refl _)
  unfold running
  rw [h.1]
  exact runs_all _ _ h.2
end Cg

set_option maxRecDepth 100000 in
set_option maxHeartbeats 2000000 in
theorem clogMost_law (r : Bool) (w : World) (_ : True) :
    Calls Try.prog 5 #[.bool r] w fun e w' => e = .returned (.bool true) ∧ Below w.heap.size w w' := by
  go_enter Try.func5, Try.ntmps5
  go_wp2_with fail
  refine (new_any w).mono ?_
  rintro e w1 ⟨rfl, hl, hb⟩
  obtain ⟨p, hp⟩ : ∃ p, p = w.heap.size := ⟨_, rfl⟩
  rw [← hp] at hl ⊢
  have HP := Mm.hid hp
  have HL1 := Mm.hid hl
  have HB1 := Mm.hid hb
  clear hl hb hp
  go_wp2_with fail
  go_loopw [4] (fun vi wq => ∃ j : Nat, j ≤ 200 ∧ vi = .int .i64 ((j : Int) + 1) ∧ Hid (Mm.Lg wq p (Cg.bs r j)) ∧ Hid (Below w.heap.size w wq)) (fun vi _ => 201 - (RowKit.intOf vi).toNat)
  case atStart => exact ⟨0, by omega, rfl, HL1, HB1⟩
  case round =>
    obtain ⟨j, hj, rfl, HLq, HBq⟩ := hrel
    rename World => wq
    have hn := Cg.bs_n r j hj
    by_cases hjm : j < 200
    · have g1 : (j : Int) + 1 ≤ 200 := by omega
      have HA : Hid (Cg.begA (Cg.bs r j) = j + 1) := Mm.hid (by unfold Cg.begA; rw [hn.1, if_neg (by omega)])
      have HE : Hid (Cg.begE (Cg.bs r j) = 0) := Mm.hid (by unfold Cg.begE; rw [hn.1, if_neg (by omega)])
      have hn2 : (Cg.bs r j).n ≤ 200 := by rw [hn.1]; omega
      clear hn
      go_wp2_with fail
      refine (begin_any wq p (Cg.bs r j) r HLq hn2).mono ?_
      rintro e w2 ⟨rfl, hl, hb⟩
      have HL2 : Hid (Mm.Lg w2 p (Cg.bs r (j + 1))) := Mm.hid hl
      have HB2 := Mm.hid (HBq.out.trans (hb.bel (Nat.le_of_eq HP.out.symm) HBq.out.size))
      clear hl hb
      have a1 : ((Cg.begA (Cg.bs r j) : Nat) : Int) = (j : Int) + 1 := by rw [HA.out]; rfl
      have a2 : ((Cg.begE (Cg.bs r j) : Nat) : Int) = 0 := by rw [HE.out]; rfl
      rw [a1, a2]
      clear a1 a2
      go_wp2_with fail
      exact ⟨⟨j + 1, by omega, by go_num, HL2, HB2⟩, by simp [RowKit.intOf]; omega⟩
    · obtain rfl : j = 200 := by omega
      have hall := Cg.bs_all r
      have hinv := Mm.hid (Cg.bs_inv r 200)
      obtain ⟨S, hS⟩ : ∃ S, Cg.bs r 200 = S := ⟨_, rfl⟩
      rw [hS] at hn hall hinv HLq
      clear hS
      have HALL := Mm.hid hall
      clear hall
      have HA : Hid (Cg.begA (S) = 0) := Mm.hid (by unfold Cg.begA; rw [if_pos hn.1])
      have HE : Hid (Cg.begE (S) = 74) := Mm.hid (by unfold Cg.begE; rw [if_pos hn.1])
      have HS : Hid (Cg.begS (S) r = S) := Mm.hid (by unfold Cg.begS; rw [if_pos hn.1])
      have hn2 : (S).n ≤ 200 := by rw [hn.1]; omega
      clear hn
      go_wp2_with fail
      refine (begin_any wq p (S) r HLq hn2).mono ?_
      rintro e w2 ⟨rfl, hl, hb⟩
      rw [HS.out] at hl
      have HL2 : Hid (Mm.Lv w2 (.pointer (some ⟨p, 0, none⟩)) (S)) := Mm.hid (Or.inl ⟨p, rfl, hl⟩)
      have HB2 := Mm.hid (HBq.out.trans (hb.bel (Nat.le_of_eq HP.out.symm) HBq.out.size))
      clear hl hb
      have a1 : ((Cg.begA (S) : Nat) : Int) = 0 := by rw [HA.out]; rfl
      have a2 : ((Cg.begE (S) : Nat) : Int) = 74 := by rw [HE.out]; rfl
      rw [a1, a2]
      clear a1 a2
      go_wp2_with fail
      refine (running_any w2 _ (S) HL2 hinv).mono ?_
      rintro e w3 ⟨vr, rfl, ho, hb⟩
      obtain ⟨qr, cr, rfl, -, -, -, -⟩ := ho.shape
      rw [Mm.nts_len, HALL.out]
      have HB3 := Mm.hid (HB2.out.trans (hb.mono HB2.out.size))
      clear ho hb
      go_wp2_with fail
      refine (wakes_any w3).mono ?_
      rintro e w4 ⟨rfl, hb⟩
      have HB4 := Mm.hid (HB3.out.trans (hb.mono HB3.out.size))
      clear hb
      go_wp2_with fail
      go_ret
      exact ⟨rfl, HB4.out⟩
end Go.Proofs.Ytdbbamjijhaeoaa
