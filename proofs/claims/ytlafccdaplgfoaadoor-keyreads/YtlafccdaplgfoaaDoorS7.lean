/- wakes. -/
import Derived.Test.YtlafccdaplgfoaaDoorS6
import Derived.Test.YtlafccdaplgfoaaDoorX2
namespace Go.Proofs.YtlafccdaplgfoaaDoor
open Go.RowKit
attribute [local go_sem] Fl.run_store_float
namespace Ky
open Vl
theorem wk_g : GoodV ⟨2, 1, 0, ⟨#[]⟩⟩ := good_2 (by omega) (by omega)
theorem wk_h : GoodV ⟨4, 0, 0, ⟨#[97]⟩⟩ := good_4 (by decide)
theorem wk_1 : keyB ⟨2, 1, 0, ⟨#[]⟩⟩ = ⟨#[2, 128, 0, 0, 0, 0, 0, 0, 1]⟩ := by decide +kernel
theorem wk_2 : entB ⟨4, 0, 0, ⟨#[97]⟩⟩ 258 = ⟨#[4, 97, 0, 1, 1, 2]⟩ := by decide +kernel
theorem wk_3 : entE ⟨4, 0, 0, ⟨#[97]⟩⟩ 258 = 0 := by decide +kernel
theorem wk_4 : EntIs (⟨#[4, 97, 0, 1, 1, 2]⟩ : ByteArray).data.toList (some (⟨4, 0, 0, ⟨#[97]⟩⟩, 258)) := ⟨wk_h, by decide, by decide +kernel⟩
end Ky

set_option maxRecDepth 100000 in
set_option maxHeartbeats 2000000 in
theorem wakes_any (w : World) (hM : Ky.Mx w) :
    Calls Tryd.prog 10 #[] w fun e w' => e = .returned (.bool true) ∧ Below w.heap.size w w' := by
  have HM := Vl.hid hM
  clear hM
  go_enter Tryd.func10, Tryd.ntmps10
  go_wp2_with fail
  refine (of_yes ⟨2, 1, 0, ⟨#[]⟩⟩ _ HM.out Ky.wk_g).mono ?_
  rintro e w1 ⟨rfl, hb1⟩
  rw [Ky.wk_1]
  have HM1 := Vl.hid (HM.out.below hb1)
  have HB1 := Vl.hid hb1
  clear hb1 HM
  go_wp2_with fail
  refine (entry_any ⟨4, 0, 0, ⟨#[97]⟩⟩ 258 _ HM1.out Ky.wk_h.inn).mono ?_
  rintro e w2 ⟨rfl, hb2⟩
  rw [Ky.wk_2, Ky.wk_3]
  have HM2 := Vl.hid (HM1.out.below hb2)
  have HB2 := Vl.hid (Vl.btr HB1.out hb2)
  clear hb2 HM1 HB1
  go_wp2_with fail
  refine (split_any ⟨#[4, 97, 0, 1, 1, 2]⟩ _ HM2.out (by decide)).mono ?_
  rintro e w3 ⟨o, rfl, ho, hb3⟩
  obtain rfl := Ky.EntIs.one ho Ky.wk_4
  have HB3 := Vl.hid (Vl.btr HB2.out hb3)
  clear hb3 ho HM2 HB2
  unfold Ky.splT
  go_wp2_with fail
  go_ret
  exact ⟨by first | rfl | simp, Vl.bal HB3.out _⟩

end Go.Proofs.YtlafccdaplgfoaaDoor
