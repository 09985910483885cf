/- The walk of the law FloatTotal. -/
import Derived.Test.YtamefmblpncmeabDoorLaid
namespace Go.Proofs.YtamefmblpncmeabDoor
open Go.RowKit

set_option maxHeartbeats 2000000 in
theorem floatTotal_walk (a b c : Nat) (w : World) (ha : a < 18446744073709551616) (hb : b < 18446744073709551616) (_ : c < 18446744073709551616) (hT : Tab w) :
    Calls Tryd.prog 3 #[.float .f64 a, .float .f64 b, .float .f64 c] w fun e w' => e = .returned (.bool true) ∧ Below w.heap.size w w' := by
  have e1 := Fl.cmpI_self a
  have e2 := Fl.cmpI_canon ha
  obtain ⟨⟨c1, c2⟩ | ⟨c1, c2⟩ | ⟨c1, c2⟩, c3 | c3 | c3⟩ := Fl.total3 (c := c) ha hb
  all_goals first
    | (exfalso; omega)
    | (by_cases c4 : 0 < Fl.cmpI b c
       all_goals
        go_enter Tryd.func3, Tryd.ntmps3
        go_wp2_with (first | (go_at_call 5; refine (compare_any _ _ _).mono ?_; rintro e w' ⟨rfl, rfl⟩) | (go_at_call 6; refine (canon_any _ _).mono ?_; rintro e w' ⟨rfl, rfl⟩) | (go_at_call 7; refine (same_any _ _ _).mono ?_; rintro e w' ⟨rfl, rfl⟩) | (go_at_call 8; refine (wakes_any _ hT).mono ?_; rintro e w' ⟨rfl, hb2⟩))
        all_goals (go_ret; exact ⟨rfl, hb2⟩))

end Go.Proofs.YtamefmblpncmeabDoor
