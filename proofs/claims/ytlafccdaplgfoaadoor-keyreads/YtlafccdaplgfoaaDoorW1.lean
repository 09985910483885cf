/- Walks of the small functions on float64 words. -/
import Derived.Test.YtlafccdaplgfoaaDoorRows
import Derived.Test.YtlafccdaplgfoaaDoorMath2
import Derived.WalkKit
import Derived.WalkSpells
import Derived.WalkLawsBesides
namespace Go.Proofs.YtlafccdaplgfoaaDoor
open Go.RowKit


/-- A float stored: the kit's laws of this kind name ints, bools, pointers, slices, strings. -/
theorem Fl.run_store_float {P : Program} (w : World) (a : Addr) (m : Mode) (k : FloatKind) (b : Nat) : (store a (.float k b) m).run P w = stored P w a (.float k b) m := run_store P w a _ m rfl

theorem Tryd.float64bits (x : Nat) (w : World) : (callFunc 35 #[.float .f64 x]).run Tryd.prog w = .ok (.value (.int .u64 x)) w := by
  rw [run_callFunc_extern Tryd.func35 (by kernel_rfl) (by kernel_rfl) (by kernel_rfl) (e := Extern.MathFloatBits.float64bits) (by kernel_rfl)]; rfl
theorem Tryd.float64frombits (n : Int) (w : World) : (callFunc 70 #[.int .u64 n]).run Tryd.prog w = .ok (.value (.float .f64 n.toNat)) w := by
  rw [run_callFunc_extern Tryd.func70 (by kernel_rfl) (by kernel_rfl) (by kernel_rfl) (e := Extern.MathFloatBits.float64frombits) (by kernel_rfl)]; rfl

attribute [local go_sem] Fl.lss_eq Fl.gtr_eq Fl.eql_eq Fl.neq_eq Fl.eqB_self Tryd.float64bits Tryd.float64frombits

set_option maxHeartbeats 400000 in
theorem isNaN_any (x : Nat) (w : World) :
    Calls Tryd.prog 69 #[.float .f64 x] w fun e w' => e = .returned (.bool (Fl.nanB x)) ∧ w' = w := by
  go_enter Tryd.func69, Tryd.ntmps69
  go_wp2
  go_ret
  exact ⟨by simp, rfl⟩

set_option maxHeartbeats 400000 in
theorem canon_any (x : Nat) (w : World) :
    Calls Tryd.prog 67 #[.float .f64 x] w fun e w' => e = .returned (.float .f64 (Fl.canonN x)) ∧ w' = w := by
  cases h : Fl.nanB x
  · cases hz : Fl.eqB x 0
    · go_enter Tryd.func67, Tryd.ntmps67
      go_wp2
      go_ret
      exact ⟨by rw [Fl.canonN_other h hz]; rfl, rfl⟩
    · go_enter Tryd.func67, Tryd.ntmps67
      go_wp2
      go_ret
      exact ⟨by rw [Fl.canonN_zero h hz]; rfl, rfl⟩
  · go_enter Tryd.func67, Tryd.ntmps67
    go_wp2
    go_ret
    exact ⟨by rw [Fl.canonN_nan h]; rfl, rfl⟩

set_option maxHeartbeats 400000 in
theorem refCanon_any (x : Nat) (w : World) :
    Calls Tryd.prog 44 #[.float .f64 x] w fun e w' => e = .returned (.float .f64 (Fl.canonN x)) ∧ w' = w := by
  cases h : Fl.nanB x
  · cases hz : Fl.eqB x 0
    · go_enter Tryd.func44, Tryd.ntmps44
      go_wp2
      go_ret
      exact ⟨by rw [Fl.canonN_other h hz]; rfl, rfl⟩
    · go_enter Tryd.func44, Tryd.ntmps44
      go_wp2
      go_ret
      exact ⟨by rw [Fl.canonN_zero h hz]; rfl, rfl⟩
  · go_enter Tryd.func44, Tryd.ntmps44
    go_wp2
    go_ret
    exact ⟨by rw [Fl.canonN_nan h]; rfl, rfl⟩

set_option maxHeartbeats 400000 in
theorem is_any (x : Nat) (w : World) :
    Calls Tryd.prog 77 #[.float .f64 x] w fun e w' => e = .returned (.bool (Fl.isB x)) ∧ w' = w := by
  go_enter Tryd.func77, Tryd.ntmps77
  go_wp2_with (go_at_call 67; refine (canon_any _ _).mono ?_; rintro e w' ⟨rfl, rfl⟩)
  go_ret
  exact ⟨by rw [← Fl.isB_int]; rfl, rfl⟩

set_option maxHeartbeats 400000 in
theorem refIs_any (x : Nat) (w : World) :
    Calls Tryd.prog 37 #[.float .f64 x] w fun e w' => e = .returned (.bool (Fl.isB x)) ∧ w' = w := by
  go_enter Tryd.func37, Tryd.ntmps37
  go_wp2_with (go_at_call 44; refine (refCanon_any _ _).mono ?_; rintro e w' ⟨rfl, rfl⟩)
  go_ret
  exact ⟨by rw [← Fl.isB_int]; rfl, rfl⟩

set_option maxHeartbeats 400000 in
theorem bits_any (x : Nat) (w : World) (hx : x < 18446744073709551616) :
    Calls Tryd.prog 42 #[.float .f64 x] w fun e w' => e = .returned (.int .u64 (Fl.bitsN x : Int)) ∧ w' = w := by
  go_enter Tryd.func42, Tryd.ntmps42
  go_wp2_with (go_at_call 67; refine (canon_any _ _).mono ?_; rintro e w' ⟨rfl, rfl⟩)
  · go_ret
    exact ⟨congrArg (fun n => Ending.returned (Value.int .u64 n)) (Fl.bits_neg hx ‹_›), rfl⟩
  · go_ret
    exact ⟨congrArg (fun n => Ending.returned (Value.int .u64 n)) (Fl.bits_pos hx ‹_›), rfl⟩

set_option maxHeartbeats 400000 in
theorem rank_any (x : Nat) (w : World) :
    Calls Tryd.prog 50 #[.float .f64 x] w fun e w' => e = .returned (.int .i64 (if Fl.nanB x then 1 else 0)) ∧ w' = w := by
  go_enter Tryd.func50, Tryd.ntmps50
  go_wp2
  all_goals
    go_ret
    exact ⟨congrArg (fun n => Ending.returned (Value.int .i64 n)) (by simp [*]), rfl⟩

set_option maxHeartbeats 400000 in
theorem refCompare_any (x y : Nat) (w : World) :
    Calls Tryd.prog 38 #[.float .f64 x, .float .f64 y] w fun e w' => e = .returned (.int .i64 (Fl.cmpI x y)) ∧ w' = w := by
  cases hx : Fl.nanB x <;> cases hy : Fl.nanB y
  all_goals
    go_enter Tryd.func38, Tryd.ntmps38
    go_wp2
    all_goals
      go_ret
      exact ⟨congrArg (fun n => Ending.returned (Value.int .i64 n)) (by simp [Fl.cmpI, *]), rfl⟩

end Go.Proofs.YtlafccdaplgfoaaDoor
