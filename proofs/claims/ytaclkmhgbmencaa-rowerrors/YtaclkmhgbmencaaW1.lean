/- Walks of the small functions on float64 words. -/
import Derived.Test.YtaclkmhgbmencaaRows
import Derived.Test.YtaclkmhgbmencaaMath2
import Derived.WalkKit
import Derived.WalkSpells
import Derived.WalkLawsBesides
namespace Go.Proofs.Ytaclkmhgbmencaa
open Go.RowKit


/-- A float stored: the kit's laws of this kind name ints, bools, pointers, slices, strings. -/
theorem Fl.run_store_float {P : Program} (w : World) (a : Addr) (m : Mode) (k : FloatKind) (b : Nat) : (store a (.float k b) m).run P w = stored P w a (.float k b) m := run_store P w a _ m rfl

theorem Try.float64bits (x : Nat) (w : World) : (callFunc 32 #[.float .f64 x]).run Try.prog w = .ok (.value (.int .u64 x)) w := by
  rw [run_callFunc_extern Try.func32 (by kernel_rfl) (by kernel_rfl) (by kernel_rfl) (e := Extern.MathFloatBits.float64bits) (by kernel_rfl)]; rfl
theorem Try.float64frombits (n : Int) (w : World) : (callFunc 57 #[.int .u64 n]).run Try.prog w = .ok (.value (.float .f64 n.toNat)) w := by
  rw [run_callFunc_extern Try.func57 (by kernel_rfl) (by kernel_rfl) (by kernel_rfl) (e := Extern.MathFloatBits.float64frombits) (by kernel_rfl)]; rfl

attribute [local go_sem] Fl.lss_eq Fl.gtr_eq Fl.eql_eq Fl.neq_eq Fl.eqB_self Try.float64bits Try.float64frombits

set_option maxHeartbeats 400000 in
theorem isNaN_any (x : Nat) (w : World) :
    Calls Try.prog 56 #[.float .f64 x] w fun e w' => e = .returned (.bool (Fl.nanB x)) ∧ w' = w := by
  go_enter Try.func56, Try.ntmps56
  go_wp2
  go_ret
  exact ⟨by simp, rfl⟩

set_option maxHeartbeats 400000 in
theorem canon_any (x : Nat) (w : World) :
    Calls Try.prog 65 #[.float .f64 x] w fun e w' => e = .returned (.float .f64 (Fl.canonN x)) ∧ w' = w := by
  cases h : Fl.nanB x
  · cases hz : Fl.eqB x 0
    · go_enter Try.func65, Try.ntmps65
      go_wp2
      go_ret
      exact ⟨by rw [Fl.canonN_other h hz]; rfl, rfl⟩
    · go_enter Try.func65, Try.ntmps65
      go_wp2
      go_ret
      exact ⟨by rw [Fl.canonN_zero h hz]; rfl, rfl⟩
  · go_enter Try.func65, Try.ntmps65
    go_wp2
    go_ret
    exact ⟨by rw [Fl.canonN_nan h]; rfl, rfl⟩

set_option maxHeartbeats 400000 in
theorem refCanon_any (x : Nat) (w : World) :
    Calls Try.prog 38 #[.float .f64 x] w fun e w' => e = .returned (.float .f64 (Fl.canonN x)) ∧ w' = w := by
  cases h : Fl.nanB x
  · cases hz : Fl.eqB x 0
    · go_enter Try.func38, Try.ntmps38
      go_wp2
      go_ret
      exact ⟨by rw [Fl.canonN_other h hz]; rfl, rfl⟩
    · go_enter Try.func38, Try.ntmps38
      go_wp2
      go_ret
      exact ⟨by rw [Fl.canonN_zero h hz]; rfl, rfl⟩
  · go_enter Try.func38, Try.ntmps38
    go_wp2
    go_ret
    exact ⟨by rw [Fl.canonN_nan h]; rfl, rfl⟩

set_option maxHeartbeats 400000 in
theorem is_any (x : Nat) (w : World) :
    Calls Try.prog 61 #[.float .f64 x] w fun e w' => e = .returned (.bool (Fl.isB x)) ∧ w' = w := by
  go_enter Try.func61, Try.ntmps61
  go_wp2_with (go_at_call 65; refine (canon_any _ _).mono ?_; rintro e w' ⟨rfl, rfl⟩)
  go_ret
  exact ⟨by rw [← Fl.isB_int]; rfl, rfl⟩

set_option maxHeartbeats 400000 in
theorem refIs_any (x : Nat) (w : World) :
    Calls Try.prog 34 #[.float .f64 x] w fun e w' => e = .returned (.bool (Fl.isB x)) ∧ w' = w := by
  go_enter Try.func34, Try.ntmps34
  go_wp2_with (go_at_call 38; refine (refCanon_any _ _).mono ?_; rintro e w' ⟨rfl, rfl⟩)
  go_ret
  exact ⟨by rw [← Fl.isB_int]; rfl, rfl⟩

set_option maxHeartbeats 400000 in
theorem bits_any (x : Nat) (w : World) (hx : x < 18446744073709551616) :
    Calls Try.prog 62 #[.float .f64 x] w fun e w' => e = .returned (.int .u64 (Fl.bitsN x : Int)) ∧ w' = w := by
  go_enter Try.func62, Try.ntmps62
  go_wp2_with (go_at_call 65; refine (canon_any _ _).mono ?_; rintro e w' ⟨rfl, rfl⟩)
  · go_ret
    exact ⟨congrArg (fun n => Ending.returned (Value.int .u64 n)) (Fl.bits_neg hx ‹_›), rfl⟩
  · go_ret
    exact ⟨congrArg (fun n => Ending.returned (Value.int .u64 n)) (Fl.bits_pos hx ‹_›), rfl⟩

end Go.Proofs.Ytaclkmhgbmencaa
