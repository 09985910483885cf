/- The walk of the law FloatOrder. -/
import Derived.Test.YtamefmblpncmeaaDoorLaid
namespace Go.Proofs.YtamefmblpncmeaaDoor
open Go.RowKit

set_option maxHeartbeats 1000000 in
theorem floatOrder_walk (x y : Nat) (w : World) (hx : x < 18446744073709551616) (hy : y < 18446744073709551616) (hT : Tab w) :
    Calls Tryd.prog 4 #[.float .f64 x, .float .f64 y] w fun e w' => e = .returned (.bool true) ∧ Below w.heap.size w w' := by
  have e2 : ((Fl.bitsN x : Int) == (Fl.bitsN x : Int)) = true := by simp
  have e3 : ((Fl.bitsN y : Int) == (Fl.bitsN y : Int)) = true := by simp
  rcases Fl.cmp_cases hx hy with ⟨c1, c2, c3, c4⟩ | ⟨c1, c2, c3, c4⟩ | ⟨c1, c2, c3, c4⟩
  all_goals
    go_enter Tryd.func4, Tryd.ntmps4
    go_wp2_with (first | (go_at_call 15; refine (compare_any _ _ _).mono ?_; rintro e w' ⟨rfl, rfl⟩) | (go_at_call 17; refine (refCompare_any _ _ _).mono ?_; rintro e w' ⟨rfl, rfl⟩) | (go_at_call 16; refine (bits_any _ _ (by assumption)).mono ?_; rintro e w' ⟨rfl, rfl⟩) | (go_at_call 18; refine (refBits_any _ _ (by assumption)).mono ?_; rintro e w' ⟨rfl, rfl⟩) | (go_at_call 14; refine (wakes_any _ hT).mono ?_; rintro e w' ⟨rfl, hb⟩))
    go_ret
    exact ⟨rfl, hb⟩

end Go.Proofs.YtamefmblpncmeaaDoor
