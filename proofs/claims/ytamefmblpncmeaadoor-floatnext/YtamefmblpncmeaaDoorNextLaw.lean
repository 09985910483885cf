/- The walk of the law FloatNext. -/
import Derived.Test.YtamefmblpncmeaaDoorLaid
namespace Go.Proofs.YtamefmblpncmeaaDoor
open Go.RowKit
attribute [local go_sem] Fl.run_store_float

set_option maxHeartbeats 1000000 in
theorem floatNext_walk (x b : Nat) (w : World) (hx : x < 18446744073709551616) (hb : b < 18446744073709551616) (hT : Tab w) :
    Calls Tryd.prog 6 #[.float .f64 x, .float .f64 b] w fun e w' => e = .returned (.bool true) ∧ Below w.heap.size w w' := by
  have e1 : (Fl.nxtN x == Fl.nxtN x) = true := by simp
  cases hn : Fl.nanB x
  · obtain ⟨c1, c2 | c2 | ⟨c2, c3 | c3⟩⟩ := Fl.nxt_cmp hx hb hn
    all_goals
      go_enter Tryd.func6, Tryd.ntmps6
      go_wp2_with (first | (go_at_call 21; refine (next_any _ _ hx).mono ?_; rintro e w' ⟨rfl, rfl⟩) | (go_at_call 22; refine (refNext_any _ _ hx).mono ?_; rintro e w' ⟨rfl, hb1⟩) | (go_at_call 9; refine (same_any _ _ _).mono ?_; rintro e w' ⟨rfl, rfl⟩) | (go_at_call 23; refine (isNaN_any _ _).mono ?_; rintro e w' ⟨rfl, rfl⟩) | (go_at_call 15; refine (compare_any _ _ _).mono ?_; rintro e w' ⟨rfl, rfl⟩) | (go_at_call 14; refine (wakes_any _ ((hT.below hb1).alloc _)).mono ?_; rintro e w' ⟨rfl, hb2⟩))
      go_ret
      exact ⟨rfl, bel_trans (bel_alloc hb1 _) hb2⟩
  · go_enter Tryd.func6, Tryd.ntmps6
    go_wp2_with (first | (go_at_call 21; refine (next_any _ _ hx).mono ?_; rintro e w' ⟨rfl, rfl⟩) | (go_at_call 22; refine (refNext_any _ _ hx).mono ?_; rintro e w' ⟨rfl, hb1⟩) | (go_at_call 9; refine (same_any _ _ _).mono ?_; rintro e w' ⟨rfl, rfl⟩) | (go_at_call 23; refine (isNaN_any _ _).mono ?_; rintro e w' ⟨rfl, rfl⟩) | (go_at_call 15; refine (compare_any _ _ _).mono ?_; rintro e w' ⟨rfl, rfl⟩) | (go_at_call 14; refine (wakes_any _ ((hT.below hb1).alloc _)).mono ?_; rintro e w' ⟨rfl, hb2⟩))
    go_ret
    exact ⟨rfl, bel_trans (bel_alloc hb1 _) hb2⟩

end Go.Proofs.YtamefmblpncmeaaDoor
