/- Walks of float.Next and its reference twin. -/
import Derived.Test.YtamefmblpncmeabDoorW2
namespace Go.Proofs.YtamefmblpncmeabDoor
open Go.RowKit
attribute [local go_sem] Fl.lss_eq Fl.gtr_eq Fl.eql_eq Fl.neq_eq Fl.eqB_self Tryd.float64bits Tryd.float64frombits Fl.run_store_float

set_option maxHeartbeats 400000 in
theorem next_any (x : Nat) (w : World) (hx : x < 18446744073709551616) :
    Calls Tryd.prog 14 #[.float .f64 x] w fun e w' => e = .returned (.tuple #[.float .f64 (Fl.nxtN x), .bool (!Fl.nanB x)]) ∧ w' = w := by
  cases hn : Fl.nanB x
  · cases hi : Fl.infB x
    · have hi' : Fl.ltB 9218868437227405311 x = false := hi
      cases he : Fl.eqB x 9223372036854775809
      · obtain ⟨b1, b2, b3⟩ := Fl.next_bits hx hn hi he
        have B2 : Hid (Fl.unbN (Fl.bitsN x + 1) = Fl.nextN x) := b2
        clear b2
        go_enter Tryd.func14, Tryd.ntmps14
        go_wp2_with (first | (go_at_call 9; refine (isNaN_any _ _).mono ?_; rintro e w' ⟨rfl, rfl⟩) | (go_at_call 21; refine (isInf_any _ _).mono ?_; rintro e w' ⟨rfl, rfl⟩) | (go_at_call 15; refine (nan_any _).mono ?_; rintro e w' ⟨rfl, rfl⟩) | (go_at_call 6; refine (canon_any _ _).mono ?_; rintro e w' ⟨rfl, rfl⟩) | (go_at_call 17; refine (bits_any _ _ hx).mono ?_; rintro e w' ⟨rfl, rfl⟩))
        rw [show ((Fl.bitsN x : Int) + 1) = ((Fl.bitsN x + 1 : Nat) : Int) from rfl]
        refine (from_any _ _ (by omega)).mono ?_
        rintro e w' ⟨rfl, rfl⟩
        rw [B2.out]
        have hg : Fl.gotN (Fl.nextN x) = Fl.nextN x := by unfold Fl.gotN; rw [b3]; rfl
        go_wp2
        go_ret2
        exact ⟨by unfold Fl.nxtN; rw [hn, hi]; rfl, rfl⟩
      · go_enter Tryd.func14, Tryd.ntmps14
        go_wp2_with (first | (go_at_call 9; refine (isNaN_any _ _).mono ?_; rintro e w' ⟨rfl, rfl⟩) | (go_at_call 21; refine (isInf_any _ _).mono ?_; rintro e w' ⟨rfl, rfl⟩) | (go_at_call 15; refine (nan_any _).mono ?_; rintro e w' ⟨rfl, rfl⟩) | (go_at_call 6; refine (canon_any _ _).mono ?_; rintro e w' ⟨rfl, rfl⟩) | (go_at_call 17; refine (bits_any _ _ hx).mono ?_; rintro e w' ⟨rfl, rfl⟩))
        go_ret2
        exact ⟨by unfold Fl.nxtN; rw [hn, hi, Fl.nextN_neg hx hn he]; rfl, rfl⟩
    · have hi' : Fl.ltB 9218868437227405311 x = true := hi
      go_enter Tryd.func14, Tryd.ntmps14
      go_wp2_with (first | (go_at_call 9; refine (isNaN_any _ _).mono ?_; rintro e w' ⟨rfl, rfl⟩) | (go_at_call 21; refine (isInf_any _ _).mono ?_; rintro e w' ⟨rfl, rfl⟩) | (go_at_call 15; refine (nan_any _).mono ?_; rintro e w' ⟨rfl, rfl⟩) | (go_at_call 6; refine (canon_any _ _).mono ?_; rintro e w' ⟨rfl, rfl⟩) | (go_at_call 17; refine (bits_any _ _ hx).mono ?_; rintro e w' ⟨rfl, rfl⟩))
      go_ret2
      exact ⟨by unfold Fl.nxtN; rw [hn, hi]; rfl, rfl⟩
  · go_enter Tryd.func14, Tryd.ntmps14
    go_wp2_with (first | (go_at_call 9; refine (isNaN_any _ _).mono ?_; rintro e w' ⟨rfl, rfl⟩) | (go_at_call 21; refine (isInf_any _ _).mono ?_; rintro e w' ⟨rfl, rfl⟩) | (go_at_call 15; refine (nan_any _).mono ?_; rintro e w' ⟨rfl, rfl⟩) | (go_at_call 6; refine (canon_any _ _).mono ?_; rintro e w' ⟨rfl, rfl⟩) | (go_at_call 17; refine (bits_any _ _ hx).mono ?_; rintro e w' ⟨rfl, rfl⟩))
    go_ret2
    exact ⟨by unfold Fl.nxtN; rw [hn]; rfl, rfl⟩

end Go.Proofs.YtamefmblpncmeabDoor
