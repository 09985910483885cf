/- wakes. -/
import Derived.Test.YtdbbamjijhaeoaaCa6
namespace Go.Proofs.Ytdbbamjijhaeoaa
open Go.RowKit

/-- The log of wakes. -/
def Cg.k1 : Cg.S := Cg.begS Cg.s0 false
def Cg.k2 : Cg.S := Cg.begS Cg.k1 true
def Cg.k3 : Cg.S := Cg.comS Cg.k2 1
theorem Cg.k3_inv : Cg.Inv Cg.k3 := ((Cg.inv0.begS false).begS true).comS 1

set_option maxRecDepth 100000 in
set_option maxHeartbeats 2000000 in
theorem wakes_any (w : World) :
    Calls Try.prog 9 #[] w fun e w' => e = .returned (.bool true) ∧ Below w.heap.size w w' := by
  go_enter Try.func9, Try.ntmps9
  go_wp2_with fail
  refine (new_any w).mono ?_
  rintro e w1 ⟨rfl, hl, hb⟩
  obtain ⟨p, hp⟩ : ∃ p, p = w.heap.size := ⟨_, rfl⟩
  rw [← hp] at hl ⊢
  have HP := Mm.hid hp
  have HL1 := Mm.hid hl
  have HB1 := Mm.hid hb
  clear hl hb hp
  go_wp2_with fail
  refine (begin_any w1 p Cg.s0 false HL1 (by decide)).mono ?_
  rintro e w2 ⟨rfl, hl, hb⟩
  have HL2 : Hid (Mm.Lg w2 p Cg.k1) := Mm.hid hl
  have HB2 := Mm.hid (HB1.out.trans (hb.bel (Nat.le_of_eq HP.out.symm) HB1.out.size))
  clear hl hb
  have a1 : (Cg.begA Cg.s0 : Int) = 1 := rfl
  have a2 : (Cg.begE Cg.s0 : Int) = 0 := rfl
  rw [a1, a2]
  clear a1 a2
  go_wp2_with fail
  refine (begin_any w2 p Cg.k1 true HL2 (by decide)).mono ?_
  rintro e w3 ⟨rfl, hl, hb⟩
  have HL3 : Hid (Mm.Lg w3 p Cg.k2) := Mm.hid hl
  have HB3 := Mm.hid (HB2.out.trans (hb.bel (Nat.le_of_eq HP.out.symm) HB2.out.size))
  clear hl hb
  have a1 : (Cg.begA Cg.k1 : Int) = 2 := rfl
  have a2 : (Cg.begE Cg.k1 : Int) = 0 := rfl
  rw [a1, a2]
  clear a1 a2
  go_wp2_with fail
  refine (commit_any w3 p Cg.k2 1 HL3 (by decide) (by decide)).mono ?_
  rintro e w4 ⟨rfl, hl, hb⟩
  have HL4 : Hid (Mm.Lv w4 (.pointer (some ⟨p, 0, none⟩)) Cg.k3) := Mm.hid (Or.inl ⟨p, rfl, hl⟩)
  have HB4 := Mm.hid (HB3.out.trans (hb.bel (Nat.le_of_eq HP.out.symm) HB3.out.size))
  clear hl hb
  have a1 : (Cg.comA Cg.k2 1 : Int) = 1 := rfl
  have a2 : (Cg.endE Cg.k2 1 : Int) = 0 := rfl
  rw [a1, a2]
  clear a1 a2
  go_wp2_with fail
  refine (sees_any w4 _ Cg.k3 2 1 HL4 (by decide)).mono ?_
  rintro e w5 ⟨rfl, hb⟩
  have HL5 := Mm.hid (HL4.out.below hb)
  have HB5 := Mm.hid (HB4.out.trans (hb.mono HB4.out.size))
  clear hb
  rw [show Cg.sees Cg.k3 2 1 = false from rfl]
  go_wp2_with fail
  refine (beside_any w5 _ Cg.k3 1 2 HL5 (by decide)).mono ?_
  rintro e w6 ⟨rfl, hb⟩
  have HL6 := Mm.hid (HL5.out.below hb)
  have HB6 := Mm.hid (HB5.out.trans (hb.mono HB5.out.size))
  clear hb
  rw [show Cg.beside Cg.k3 1 2 = true from rfl]
  go_wp2_with fail
  refine (reads_any w6 _ Cg.k3 2 HL6 (by decide)).mono ?_
  rintro e w7 ⟨rfl, hb⟩
  have HL7 := Mm.hid (HL6.out.below hb)
  have HB7 := Mm.hid (HB6.out.trans (hb.mono HB6.out.size))
  clear hb
  rw [show (Cg.gt Cg.k3 2).rd = true from rfl]
  go_wp2_with fail
  refine (clock_any w7 _ Cg.k3 HL7).mono ?_
  rintro e w8 ⟨rfl, hb⟩
  have HL8 := Mm.hid (HL7.out.below hb)
  have HB8 := Mm.hid (HB7.out.trans (hb.mono HB7.out.size))
  clear hb
  rw [show ((Cg.k3.clk : Nat) : Int) = 1 from rfl]
  go_wp2_with fail
  refine (horizon_any w8 _ Cg.k3 HL8 (Mm.hid Cg.k3_inv)).mono ?_
  rintro e w9 ⟨rfl, hb⟩
  have HB9 := Mm.hid (HB8.out.trans (hb.mono HB8.out.size))
  clear hb
  rw [show ((Cg.horizon Cg.k3 : Nat) : Int) = 0 from rfl]
  go_wp2_with fail
  go_ret
  exact ⟨rfl, HB9.out⟩
end Go.Proofs.Ytdbbamjijhaeoaa
