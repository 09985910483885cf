/- Walks of the small functions on float64 words. -/
import Derived.Test.YtamefmblpncmeabDoorRows
import Derived.Test.YtamefmblpncmeabDoorMath2
import Derived.WalkKit
import Derived.WalkSpells
import Derived.WalkLawsBesides
namespace Go.Proofs.YtamefmblpncmeabDoor
open Go.RowKit


/-- A float stored: the kit's laws of this kind name ints, bools, pointers, slices, strings. -/
theorem Fl.run_store_float {P : Program} (w : World) (a : Addr) (m : Mode) (k : FloatKind) (b : Nat) : (store a (.float k b) m).run P w = stored P w a (.float k b) m := run_store P w a _ m rfl

theorem Tryd.float64bits (x : Nat) (w : World) : (callFunc 13 #[.float .f64 x]).run Tryd.prog w = .ok (.value (.int .u64 x)) w := by
  rw [run_callFunc_extern Tryd.func13 (by kernel_rfl) (by kernel_rfl) (by kernel_rfl) (e := Extern.MathFloatBits.float64bits) (by kernel_rfl)]; rfl
theorem Tryd.float64frombits (n : Int) (w : World) : (callFunc 12 #[.int .u64 n]).run Tryd.prog w = .ok (.value (.float .f64 n.toNat)) w := by
  rw [run_callFunc_extern Tryd.func12 (by kernel_rfl) (by kernel_rfl) (by kernel_rfl) (e := Extern.MathFloatBits.float64frombits) (by kernel_rfl)]; rfl

attribute [local go_sem] Fl.lss_eq Fl.gtr_eq Fl.eql_eq Fl.neq_eq Fl.eqB_self Tryd.float64bits Tryd.float64frombits

set_option maxHeartbeats 400000 in
theorem isNaN_any (x : Nat) (w : World) :
    Calls Tryd.prog 9 #[.float .f64 x] w fun e w' => e = .returned (.bool (Fl.nanB x)) ∧ w' = w := by
  go_enter Tryd.func9, Tryd.ntmps9
  go_wp2
  go_ret
  exact ⟨by simp, rfl⟩

set_option maxHeartbeats 400000 in
theorem canon_any (x : Nat) (w : World) :
    Calls Tryd.prog 6 #[.float .f64 x] w fun e w' => e = .returned (.float .f64 (Fl.canonN x)) ∧ w' = w := by
  cases h : Fl.nanB x
  · cases hz : Fl.eqB x 0
    · go_enter Tryd.func6, Tryd.ntmps6
      go_wp2
      go_ret
      exact ⟨by rw [Fl.canonN_other h hz]; rfl, rfl⟩
    · go_enter Tryd.func6, Tryd.ntmps6
      go_wp2
      go_ret
      exact ⟨by rw [Fl.canonN_zero h hz]; rfl, rfl⟩
  · go_enter Tryd.func6, Tryd.ntmps6
    go_wp2
    go_ret
    exact ⟨by rw [Fl.canonN_nan h]; rfl, rfl⟩

set_option maxHeartbeats 400000 in
theorem is_any (x : Nat) (w : World) :
    Calls Tryd.prog 34 #[.float .f64 x] w fun e w' => e = .returned (.bool (Fl.isB x)) ∧ w' = w := by
  go_enter Tryd.func34, Tryd.ntmps34
  go_wp2_with (go_at_call 6; refine (canon_any _ _).mono ?_; rintro e w' ⟨rfl, rfl⟩)
  go_ret
  exact ⟨by rw [← Fl.isB_int]; rfl, rfl⟩

set_option maxHeartbeats 400000 in
theorem bits_any (x : Nat) (w : World) (hx : x < 18446744073709551616) :
    Calls Tryd.prog 17 #[.float .f64 x] w fun e w' => e = .returned (.int .u64 (Fl.bitsN x : Int)) ∧ w' = w := by
  go_enter Tryd.func17, Tryd.ntmps17
  go_wp2_with (go_at_call 6; refine (canon_any _ _).mono ?_; rintro e w' ⟨rfl, rfl⟩)
  · go_ret
    exact ⟨congrArg (fun n => Ending.returned (Value.int .u64 n)) (Fl.bits_neg hx ‹_›), rfl⟩
  · go_ret
    exact ⟨congrArg (fun n => Ending.returned (Value.int .u64 n)) (Fl.bits_pos hx ‹_›), rfl⟩

set_option maxHeartbeats 400000 in
theorem compare_any (x y : Nat) (w : World) :
    Calls Tryd.prog 5 #[.float .f64 x, .float .f64 y] w fun e w' => e = .returned (.int .i64 (Fl.cmpI x y)) ∧ w' = w := by
  go_enter Tryd.func5, Tryd.ntmps5
  go_wp2
  all_goals
    go_ret
    exact ⟨congrArg (fun n => Ending.returned (Value.int .i64 n)) (by simp [Fl.cmpI, *]), rfl⟩

end Go.Proofs.YtamefmblpncmeabDoor
