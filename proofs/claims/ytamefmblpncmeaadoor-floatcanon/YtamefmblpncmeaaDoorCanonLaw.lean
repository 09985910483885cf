/- The walk of the law FloatCanon. -/
import Derived.Test.YtamefmblpncmeaaDoorLaid
namespace Go.Proofs.YtamefmblpncmeaaDoor
open Go.RowKit

set_option maxHeartbeats 400000 in
theorem floatCanon_walk (x : Nat) (w : World) (_ : x < 18446744073709551616) (hT : Tab w) :
    Calls Tryd.prog 3 #[.float .f64 x] w fun e w' => e = .returned (.bool true) ∧ Below w.heap.size w w' := by
  have e1 : (Fl.canonN x == Fl.canonN x) = true := by simp
  have e2 : (Fl.isB x == Fl.isB x) = true := by simp
  have e3 := Fl.isB_canon x
  go_enter Tryd.func3, Tryd.ntmps3
  go_wp2_with (first | (go_at_call 10; refine (canon_any _ _).mono ?_; rintro e w' ⟨rfl, rfl⟩) | (go_at_call 11; refine (refCanon_any _ _).mono ?_; rintro e w' ⟨rfl, rfl⟩) | (go_at_call 9; refine (same_any _ _ _).mono ?_; rintro e w' ⟨rfl, rfl⟩) | (go_at_call 12; refine (is_any _ _).mono ?_; rintro e w' ⟨rfl, rfl⟩) | (go_at_call 13; refine (refIs_any _ _).mono ?_; rintro e w' ⟨rfl, rfl⟩) | (go_at_call 14; refine (wakes_any _ hT).mono ?_; rintro e w' ⟨rfl, hb⟩))
  go_ret
  exact ⟨rfl, hb⟩

end Go.Proofs.YtamefmblpncmeaaDoor
