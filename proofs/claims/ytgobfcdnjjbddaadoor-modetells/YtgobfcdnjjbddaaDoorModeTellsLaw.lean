/- The walk of the law ModeTells. -/
import Derived.Test.YtgobfcdnjjbddaaDoorJ6
namespace Go.Proofs.YtgobfcdnjjbddaaDoor
open Go.RowKit

set_option maxRecDepth 100000 in
set_option maxHeartbeats 4000000 in
theorem modeTells_walk (a b s : Int) (w : World) (hT : Md.Tab w) :
    Calls Tryd.prog 3 #[.int .i64 a, .int .i64 b, .int .i64 s] w fun e w' => e = .returned (.bool true) ∧ Below w.heap.size w w' := by
  have e1 : (Md.barsB a b == Md.barsB a b) = true := by simp
  have e2 : (Md.withI a == Md.withI a) = true := by simp
  have e3 : (Md.anyB s a == Md.anyB s a) = true := by simp
  have e4 : ((Md.nameS a).toList == (Md.nameS a).toList) = true := by simp
  have e5 : (Md.ofI a == Md.ofI a) = true := by simp
  have HT := Md.hid hT
  clear hT
  go_enter Tryd.func3, Tryd.ntmps3
  go_wp2_with (first
    | (go_at_call 6; refine (bars_any _ _ _ HT.out).mono ?_; rintro e w' ⟨rfl, hq⟩; obtain rfl := hq.symm)
    | (go_at_call 7; refine (refBars_any _ _ _).mono ?_; rintro e w2 ⟨rfl, hb⟩; have HB2 := Md.hid hb; clear hb)
    | (go_at_call 8; refine (with_any _ _ (HT.out.below HB2.out)).mono ?_; rintro e w' ⟨rfl, hq⟩; obtain rfl := hq.symm)
    | (go_at_call 9; refine (refWith_any _ _).mono ?_; rintro e w3 ⟨rfl, hb⟩; have HB3 := Md.hid (Md.btr HB2.out hb); clear hb)
    | (go_at_call 10; refine (any_any _ _ _ (HT.out.below HB3.out)).mono ?_; rintro e w' ⟨rfl, hq⟩; obtain rfl := hq.symm)
    | (go_at_call 11; refine (refAny_any _ _ _).mono ?_; rintro e w4 ⟨rfl, hb⟩; have HB4 := Md.hid (Md.btr HB3.out hb); clear hb)
    | (go_at_call 12; refine (name_any _ _).mono ?_; rintro e w' ⟨rfl, hq⟩; obtain rfl := hq.symm)
    | (go_at_call 13; refine (refName_any _ _).mono ?_; rintro e w5 ⟨rfl, hb⟩; have HB5 := Md.hid (Md.btr HB4.out hb); clear hb)
    | (go_at_call 14; refine (of_any _ _).mono ?_; rintro e w' ⟨rfl, hq⟩; obtain rfl := hq.symm)
    | (go_at_call 15; refine (refOf_any _ _).mono ?_; rintro e w' ⟨rfl, hq⟩; obtain rfl := hq.symm)
    | (go_at_call 16; refine (wakes_any _ (HT.out.below HB5.out)).mono ?_; rintro e w' ⟨rfl, hq⟩; obtain rfl := hq.symm))
  go_ret
  exact ⟨rfl, HB5.out⟩

end Go.Proofs.YtgobfcdnjjbddaaDoor
