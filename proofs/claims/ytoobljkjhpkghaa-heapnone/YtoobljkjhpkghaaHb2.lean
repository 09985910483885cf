/- HeapNone. -/
import Derived.Test.YtoobljkjhpkghaaHb1
namespace Go.Proofs.Ytoobljkjhpkghaa
open Go.RowKit

set_option maxRecDepth 100000 in
set_option maxHeartbeats 2000000 in
theorem insert_nil (x : Int) (v : Value) (w : World) :
    Calls Try.prog 14 #[.pointer none, .int .i64 x, v] w fun e w' => e = .returned (.tuple #[.int .i64 0, .int .i64 1]) ∧ w' = w := by
  go_enter Try.func14, Try.ntmps14
  go_wp2_with fail
  go_ret2
  exact ⟨rfl, rfl⟩

set_option maxRecDepth 100000 in
set_option maxHeartbeats 2000000 in
theorem delete_nil (x t : Int) (w : World) :
    Calls Try.prog 16 #[.pointer none, .int .i64 x, .int .i64 t] w fun e w' => e = .returned (.int .i64 1) ∧ w' = w := by
  go_enter Try.func16, Try.ntmps16
  go_wp2_with fail
  go_ret
  exact ⟨rfl, rfl⟩

set_option maxRecDepth 100000 in
set_option maxHeartbeats 2000000 in
theorem may_nil (x t : Int) (v : Value) (w : World) :
    Calls Try.prog 29 #[.pointer none, v, .int .i64 x, .int .i64 t] w fun e w' => e = .returned (.tuple #[.int .i64 1, .int .i64 0]) ∧ w' = w := by
  go_enter Try.func29, Try.ntmps29
  go_wp2_with fail
  go_ret2
  exact ⟨rfl, rfl⟩

set_option maxRecDepth 100000 in
set_option maxHeartbeats 2000000 in
theorem vacuum_nil (v : Value) (w : World) :
    Calls Try.prog 19 #[.pointer none, v] w fun e w' => e = .returned (.slice none 0 0) ∧ w' = w := by
  go_enter Try.func19, Try.ntmps19
  go_wp2_with fail
  go_ret
  exact ⟨rfl, rfl⟩

set_option maxRecDepth 100000 in
set_option maxHeartbeats 2000000 in
theorem copy_nil (v : Value) (w : World) :
    Calls Try.prog 21 #[.pointer none, v] w fun e w' => e = .returned (.pointer none) ∧ w' = w := by
  go_enter Try.func21, Try.ntmps21
  go_wp2_with fail
  go_ret
  exact ⟨rfl, rfl⟩

set_option maxRecDepth 100000 in
set_option maxHeartbeats 2000000 in
theorem heapNone_all (x t : Int) (w : World) (_ _ : True) :
    Calls Try.prog 7 #[.int .i64 x, .int .i64 t] w fun e w' => e = .returned (.bool true) ∧ Below w.heap.size w w' := by
  have HV : ∀ wz, Hid (Hp.Rv wz 0 (.pointer none) Hp.r0) := fun wz => Vl.hid (Or.inr ⟨rfl, rfl⟩)
  have HI : Hid (Hp.Inv Hp.r0) := Vl.hid Hp.inv0
  have HVH := Vl.hid HV
  clear HV
  go_enter Try.func7, Try.ntmps7
  go_wp2_with fail
  refine (new_any w).mono ?_
  rintro e w1 ⟨rfl, hl, hb⟩
  obtain ⟨p, hp⟩ : ∃ p, p = w.heap.size := ⟨_, rfl⟩
  rw [← hp] at hl ⊢
  have HL1 : Hid (Mm.Lv w1 (.pointer (some ⟨p, 0, none⟩)) Cg.s0) := Vl.hid (Or.inl ⟨p, rfl, hl⟩)
  have HB1 := Vl.hid hb
  clear hl hb hp
  go_wp2_with fail
  refine (insert_nil x (.slice none 0 0) w1).mono ?_
  rintro e w2 ⟨rfl, rfl⟩
  go_wp2_with fail
  refine (get_any w2 0 _ Hp.r0 t (HVH.out w2) HI).mono ?_
  rintro e w3 ⟨p3, c3, rfl, -, hb⟩
  have HL3 := Vl.hid (HL1.out.below hb)
  have HB3 := Vl.hid (HB1.out.trans (hb.mono HB1.out.size))
  clear hb
  rw [show (Hp.fndD Hp.r0.vs t).xmin = 0 from rfl, show (Hp.fndD Hp.r0.vs t).xmax = 0 from rfl, show (Hp.fndD Hp.r0.vs t).xs.length = 0 from rfl, show (Hp.fnd Hp.r0.vs t).isSome = false from rfl]
  go_wp2_with fail
  obtain ⟨W4, hW4⟩ : ∃ W4, (w3.alloc (.cells #[.int .i64 0, .int .i64 0, .slice p3 0 c3] 79)) = W4 := ⟨_, rfl⟩
  have HL4 := Vl.hid (hW4 ▸ HL3.out.below ((Below.refl _ _).alloc (Nat.le_refl _) (.cells #[.int .i64 0, .int .i64 0, .slice p3 0 c3] 79)))
  have HB4 := Vl.hid (hW4 ▸ HB3.out.alloc HB3.out.size (.cells #[.int .i64 0, .int .i64 0, .slice p3 0 c3] 79))
  rw [hW4]
  clear hW4
  refine (may_nil x t _ W4).mono ?_
  rintro e w4 ⟨rfl, rfl⟩
  go_wp2_with fail
  refine (delete_nil x t w4).mono ?_
  rintro e w5 ⟨rfl, rfl⟩
  go_wp2_with fail
  refine (hsees_any w5 0 _ _ Hp.r0 Cg.s0 x t (HVH.out w5) HI HL4 (by decide)).mono ?_
  rintro e w6 ⟨rfl, hb⟩
  have HL6 := Vl.hid (HL4.out.below hb)
  have HB6 := Vl.hid (HB4.out.trans (hb.mono HB4.out.size))
  clear hb
  rw [show Hp.seesV Cg.s0 Hp.r0 x t = false from rfl]
  go_wp2_with fail
  refine (unseen_any w6 0 _ _ Hp.r0 Cg.s0 x t (HVH.out w6) HI HL6 (by decide)).mono ?_
  rintro e w7 ⟨v7, rfl, ho, hb⟩
  rw [show Hp.unsL Cg.s0 Hp.r0 x t = [] from rfl] at ho
  obtain ⟨q7, c7, rfl, -, -⟩ := ho.iin
  have HL7 := Vl.hid (HL6.out.below hb)
  have HB7 := Vl.hid (HB6.out.trans (hb.mono HB6.out.size))
  clear hb ho
  go_wp2_with fail
  refine (all_any w7 0 _ Hp.r0 (HVH.out w7) HI).mono ?_
  rintro e w8 ⟨v8, rfl, ho, hb⟩
  rw [show Mm.nts (Hp.tidsL Hp.r0.vs) = Mm.its [] from rfl] at ho
  obtain ⟨q8, c8, rfl, -, -⟩ := ho.iin
  have HL8 := Vl.hid (HL7.out.below hb)
  have HB8 := Vl.hid (HB7.out.trans (hb.mono HB7.out.size))
  clear hb ho
  go_wp2_with fail
  refine (visible_any w8 0 _ _ Hp.r0 Cg.s0 x (HVH.out w8) HI HL8 (by decide)).mono ?_
  rintro e w9 ⟨v9, rfl, ho, hb⟩
  rw [show Mm.nts (Hp.visL Cg.s0 x Hp.r0.vs) = Mm.its [] from rfl] at ho
  obtain ⟨q9, c9, rfl, -, -⟩ := ho.iin
  have HB9 := Vl.hid (HB8.out.trans (hb.mono HB8.out.size))
  clear hb ho
  go_wp2_with fail
  refine (vacuum_nil _ w9).mono ?_
  rintro e w10 ⟨rfl, rfl⟩
  go_wp2_with fail
  refine (copy_nil _ w10).mono ?_
  rintro e w11 ⟨rfl, rfl⟩
  go_wp2_with fail
  refine (wakes_any w11).mono ?_
  rintro e w12 ⟨rfl, hb⟩
  have HB12 := Vl.hid (HB9.out.trans (hb.mono HB9.out.size))
  clear hb
  go_wp2_with fail
  go_ret
  exact ⟨rfl, HB12.out⟩
end Go.Proofs.Ytoobljkjhpkghaa
