/- The walk of the law FloatFrom. -/
import Derived.Test.YtamefmblpncmeaaDoorLaid
namespace Go.Proofs.YtamefmblpncmeaaDoor
open Go.RowKit
attribute [local go_sem] Fl.run_store_float

theorem Fl.u64_nat {z : Int} (h : (Lit.int .u64 z).wf = true) : ∃ n : Nat, z = (n : Int) ∧ n < 18446744073709551616 := by
  have b := bounds_u64 h
  exact ⟨z.toNat, by omega, by omega⟩

set_option maxHeartbeats 1000000 in
theorem floatFrom_walk (u : Nat) (w : World) (hu : u < 18446744073709551616) (hT : Tab w) :
    Calls Tryd.prog 5 #[.int .u64 (u : Int)] w fun e w' => e = .returned (.bool true) ∧ Below w.heap.size w w' := by
  have hg := Fl.gotN_lt (Fl.unbN_lt hu)
  have e1 : (Fl.gotN (Fl.unbN u) == Fl.gotN (Fl.unbN u)) = true := by simp
  cases hi : Fl.isB (Fl.unbN u)
  · go_enter Tryd.func5, Tryd.ntmps5
    go_wp2_with (first | (go_at_call 19; refine (from_any _ _ hu).mono ?_; rintro e w' ⟨rfl, rfl⟩) | (go_at_call 20; refine (refFrom_any _ _ hu).mono ?_; rintro e w' ⟨rfl, hb1⟩) | (go_at_call 9; refine (same_any _ _ _).mono ?_; rintro e w' ⟨rfl, rfl⟩) | (go_at_call 16; refine (bits_any _ _ hg).mono ?_; rintro e w' ⟨rfl, rfl⟩) | (go_at_call 14; refine (wakes_any _ ((hT.below hb1).alloc _)).mono ?_; rintro e w' ⟨rfl, hb2⟩))
    go_ret
    exact ⟨rfl, bel_trans (bel_alloc hb1 _) hb2⟩
  · have e2 : Fl.gotN (Fl.unbN u) = Fl.unbN u := by unfold Fl.gotN; rw [hi]; rfl
    have e3 := Fl.bits_unb hu hi
    have e4 : ((Fl.bitsN (Fl.gotN (Fl.unbN u)) : Int) == (u : Int)) = true := by rw [e2, e3]; simp
    clear e2 e3
    go_enter Tryd.func5, Tryd.ntmps5
    go_wp2_with (first | (go_at_call 19; refine (from_any _ _ hu).mono ?_; rintro e w' ⟨rfl, rfl⟩) | (go_at_call 20; refine (refFrom_any _ _ hu).mono ?_; rintro e w' ⟨rfl, hb1⟩) | (go_at_call 9; refine (same_any _ _ _).mono ?_; rintro e w' ⟨rfl, rfl⟩) | (go_at_call 16; refine (bits_any _ _ hg).mono ?_; rintro e w' ⟨rfl, rfl⟩) | (go_at_call 14; refine (wakes_any _ ((hT.below hb1).alloc _)).mono ?_; rintro e w' ⟨rfl, hb2⟩))
    go_ret
    exact ⟨rfl, bel_trans (bel_alloc hb1 _) hb2⟩

end Go.Proofs.YtamefmblpncmeaaDoor
