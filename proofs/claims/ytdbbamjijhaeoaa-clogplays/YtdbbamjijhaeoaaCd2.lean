/- The reference's Sees, Beside. -/
import Derived.Test.YtdbbamjijhaeoaaCd1
namespace Go.Proofs.Ytdbbamjijhaeoaa
open Go.RowKit
namespace Cg
theorem Inv.gst {s : S} (h : Inv s) (x : Int) : (gt s x).st = 0 ∨ (gt s x).st = 1 ∨ (gt s x).st = 2 ∨ (gt s x).st = 3 := by
  unfold gt
  split
  · rename_i c
    have := h.st x.toNat (by omega) (by omega)
    omega
  · exact Or.inl rfl
end Cg

set_option maxRecDepth 100000 in
set_option maxHeartbeats 2000000 in
theorem refSees_any (w : World) (q : Nat) (s : Cg.S) (x y : Int) (h : Hid (Mm.Rl w q s)) (hn : s.n ≤ 200) :
    Calls Try.prog 13 #[.pointer (some ⟨q, 0, none⟩), .int .i64 x, .int .i64 y] w fun e w' => e = .returned (.bool (Cg.sees s x y)) ∧ Below w.heap.size w w' := by
  obtain ⟨tx, htx⟩ : ∃ t, Cg.gt s x = t := ⟨_, rfl⟩
  obtain ⟨ty, hty⟩ : ∃ t, Cg.gt s y = t := ⟨_, rfl⟩
  rw [show Cg.sees s x y = (tx.st != 0 && (x == y || (ty.st == 2 && decide (ty.csn ≤ tx.snap)))) from by unfold Cg.sees; rw [htx, hty]]
  have HTX := Mm.hid htx
  have HTY := Mm.hid hty
  clear htx hty
  by_cases h1 : tx.st = 0
  · have g1 : ((tx.st : Int) == 0) = true := by simp; omega
    rw [show (tx.st != 0) = false from by simp [h1], Bool.false_and]
    clear h1
    go_enter Try.func13, Try.ntmps13
    go_wp2_with fail
    refine (refGet_any _ q s x h hn).mono ?_
    rintro e w1 ⟨rfl, hb⟩
    rw [HTX.out]
    have HB1 := Mm.hid hb
    have H1 := Mm.hid (h.out.below hb)
    clear hb
    go_wp2_with fail
    refine (refGet_any _ q s y H1 hn).mono ?_
    rintro e w2 ⟨rfl, hb⟩
    rw [HTY.out]
    have HB2 := Mm.hid (HB1.out.trans (hb.mono HB1.out.size))
    clear hb
    go_wp2_with fail
    go_ret
    exact ⟨rfl, (HB2.out.alloc HB2.out.size _).alloc (Nat.le_trans HB2.out.size (by simp)) _⟩
  · have g1 : ((tx.st : Int) == 0) = false := by simp; omega
    rw [show (tx.st != 0) = true from by simp [h1], Bool.true_and]
    clear h1
    by_cases h2 : x = y
    · have g2 : (x == y) = true := by simp [h2]
      rw [g2, Bool.true_or]
      clear h2
      go_enter Try.func13, Try.ntmps13
      go_wp2_with fail
      refine (refGet_any _ q s x h hn).mono ?_
      rintro e w1 ⟨rfl, hb⟩
      rw [HTX.out]
      have HB1 := Mm.hid hb
      have H1 := Mm.hid (h.out.below hb)
      clear hb
      go_wp2_with fail
      refine (refGet_any _ q s y H1 hn).mono ?_
      rintro e w2 ⟨rfl, hb⟩
      rw [HTY.out]
      have HB2 := Mm.hid (HB1.out.trans (hb.mono HB1.out.size))
      clear hb
      go_wp2_with fail
      go_ret
      exact ⟨rfl, (HB2.out.alloc HB2.out.size _).alloc (Nat.le_trans HB2.out.size (by simp)) _⟩
    · have g2 : (x == y) = false := by simp [h2]
      rw [g2, Bool.false_or]
      clear h2
      obtain ⟨b1, hb1⟩ : ∃ b, (ty.st == 2) = b := ⟨_, rfl⟩
      obtain ⟨b2, hb2⟩ : ∃ b, decide (ty.csn ≤ tx.snap) = b := ⟨_, rfl⟩
      have g3 : ((ty.st : Int) == 2) = b1 := by rw [← hb1, Bool.eq_iff_iff]; simp only [beq_iff_eq]; omega
      have g4 : decide ((ty.csn : Int) ≤ (tx.snap : Int)) = b2 := by rw [← hb2]; simp
      rw [hb1, hb2]
      clear hb1
      go_enter Try.func13, Try.ntmps13
      go_wp2_with fail
      refine (refGet_any _ q s x h hn).mono ?_
      rintro e w1 ⟨rfl, hb⟩
      rw [HTX.out]
      have HB1 := Mm.hid hb
      have H1 := Mm.hid (h.out.below hb)
      clear hb
      go_wp2_with fail
      refine (refGet_any _ q s y H1 hn).mono ?_
      rintro e w2 ⟨rfl, hb⟩
      rw [HTY.out]
      have HB2 := Mm.hid (HB1.out.trans (hb.mono HB1.out.size))
      clear hb
      have HG4 := Mm.hid hb2
      clear g4
      cases b1
      · go_wp2_with fail
        go_ret
        exact ⟨rfl, (HB2.out.alloc HB2.out.size _).alloc (Nat.le_trans HB2.out.size (by simp)) _⟩
      · go_wp2_with fail
        go_ret
        exact ⟨by rw [← HG4.out]; rfl, (HB2.out.alloc HB2.out.size _).alloc (Nat.le_trans HB2.out.size (by simp)) _⟩
end Go.Proofs.Ytdbbamjijhaeoaa
