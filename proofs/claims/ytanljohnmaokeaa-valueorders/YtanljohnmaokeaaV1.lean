/- Walks of the order of values. -/
import Derived.Test.YtanljohnmaokeaaV0
import Derived.Test.YtanljohnmaokeaaW2
namespace Go.Proofs.Ytanljohnmaokeaa
open Go.RowKit
attribute [local go_sem] Fl.run_store_float Try.float64bits Try.float64frombits

set_option maxHeartbeats 400000 in
theorem isNaNInt_any (x : Int) (w : World) :
    Calls Try.prog 58 #[.int .i64 x] w fun e w' => e = .returned (.bool false) ∧ w' = w := by
  go_enter Try.func58, Try.ntmps58
  go_wp2
  go_ret
  exact ⟨by simp, rfl⟩

set_option maxHeartbeats 400000 in
theorem cmpInt_any (x y : Int) (w : World) :
    Calls Try.prog 37 #[.int .i64 x, .int .i64 y] w fun e w' => e = .returned (.int .i64 (Vl.cmpZ x y)) ∧ w' = w := by
  go_enter Try.func37, Try.ntmps37
  go_wp2_with (go_at_call 58; refine (isNaNInt_any _ _).mono ?_; rintro e w' ⟨rfl, rfl⟩)
  all_goals
    go_ret
    exact ⟨congrArg (fun n => Ending.returned (Value.int .i64 n)) (by unfold Vl.cmpZ; repeat' split
                                                                      all_goals omega), rfl⟩

set_option maxHeartbeats 400000 in
theorem isNaNI64_any (x : Int) (w : World) :
    Calls Try.prog 59 #[.int .i64 x] w fun e w' => e = .returned (.bool false) ∧ w' = w := by
  go_enter Try.func59, Try.ntmps59
  go_wp2
  go_ret
  exact ⟨by simp, rfl⟩

set_option maxHeartbeats 400000 in
theorem cmpI64_any (x y : Int) (w : World) :
    Calls Try.prog 38 #[.int .i64 x, .int .i64 y] w fun e w' => e = .returned (.int .i64 (Vl.cmpZ x y)) ∧ w' = w := by
  go_enter Try.func38, Try.ntmps38
  go_wp2_with (go_at_call 59; refine (isNaNI64_any _ _).mono ?_; rintro e w' ⟨rfl, rfl⟩)
  all_goals
    go_ret
    exact ⟨congrArg (fun n => Ending.returned (Value.int .i64 n)) (by unfold Vl.cmpZ; repeat' split
                                                                      all_goals omega), rfl⟩

set_option maxHeartbeats 400000 in
theorem isNaNU64_any (x : Int) (w : World) :
    Calls Try.prog 113 #[.int .u64 x] w fun e w' => e = .returned (.bool false) ∧ w' = w := by
  go_enter Try.func113, Try.ntmps113
  go_wp2
  go_ret
  exact ⟨by simp, rfl⟩

set_option maxHeartbeats 400000 in
theorem cmpU64_any (x y : Int) (w : World) :
    Calls Try.prog 104 #[.int .u64 x, .int .u64 y] w fun e w' => e = .returned (.int .i64 (Vl.cmpZ x y)) ∧ w' = w := by
  go_enter Try.func104, Try.ntmps104
  go_wp2_with (go_at_call 113; refine (isNaNU64_any _ _).mono ?_; rintro e w' ⟨rfl, rfl⟩)
  all_goals
    go_ret
    exact ⟨congrArg (fun n => Ending.returned (Value.int .i64 n)) (by unfold Vl.cmpZ; repeat' split
                                                                      all_goals omega), rfl⟩

set_option maxRecDepth 100000 in
set_option maxHeartbeats 1000000 in
theorem cmpStr_in (a b : ByteArray) (w : World) :
    Calls Try.prog 61 #[.string a, .string b] w fun e w' => e = .returned (.int .i64 (Vl.cmpS a b)) ∧ w' = w := by
  go_enter Try.func61, Try.ntmps61
  go_wp2
  rw [run_callFunc_extern Try.func85 (by kernel_rfl) (by kernel_rfl) (by kernel_rfl) (e := Extern.BytealgCompare.compare) (by kernel_rfl), Lib.run_compareString]
  simp only [Result.andThen]
  rw [Oper.upon_value]
  go_wp2
  go_ret
  exact ⟨rfl, rfl⟩

set_option maxHeartbeats 400000 in
theorem cmpStr_any (a b : ByteArray) (w : World) :
    Calls Try.prog 40 #[.string a, .string b] w fun e w' => e = .returned (.int .i64 (Vl.cmpS a b)) ∧ w' = w := by
  go_enter Try.func40, Try.ntmps40
  go_wp2_with (go_at_call 61; refine (cmpStr_in _ _ _).mono ?_; rintro e w' ⟨rfl, rfl⟩)
  go_ret
  exact ⟨rfl, rfl⟩

set_option maxHeartbeats 400000 in
theorem valCompare_any (a b : Vl.V) (w : World) :
    Calls Try.prog 11 #[.agg #[.int .i64 a.k, .int .i64 a.n, .float .f64 a.f, .string a.s], .agg #[.int .i64 b.k, .int .i64 b.n, .float .f64 b.f, .string b.s]] w fun e w' =>
      e = .returned (.int .i64 (Vl.cmpV a b)) ∧ w' = (w.alloc (.cells a.cs 24)).alloc (.cells b.cs 24) := by
  obtain ⟨k, n, f, s⟩ := a
  obtain ⟨k', n', f', s'⟩ := b
  cases h1 : (Vl.cmpZ k k' != 0)
  · cases h2 : (Vl.cmpZ n n' != 0)
    · cases h3 : (Fl.cmpI f f' != 0)
      all_goals
        go_enter Try.func11, Try.ntmps11
        go_wp2_with (first | (go_at_call 37; refine (cmpInt_any _ _ _).mono ?_; rintro e w' ⟨rfl, hq⟩; obtain rfl := hq.symm) | (go_at_call 38; refine (cmpI64_any _ _ _).mono ?_; rintro e w' ⟨rfl, hq⟩; obtain rfl := hq.symm) | (go_at_call 39; refine (compare_any _ _ _).mono ?_; rintro e w' ⟨rfl, hq⟩; obtain rfl := hq.symm) | (go_at_call 40; refine (cmpStr_any _ _ _).mono ?_; rintro e w' ⟨rfl, hq⟩; obtain rfl := hq.symm))
        go_ret
        exact ⟨congrArg (fun n => Ending.returned (Value.int .i64 n)) (by simp [Vl.cmpV, *]), rfl⟩
    · go_enter Try.func11, Try.ntmps11
      go_wp2_with (first | (go_at_call 37; refine (cmpInt_any _ _ _).mono ?_; rintro e w' ⟨rfl, hq⟩; obtain rfl := hq.symm) | (go_at_call 38; refine (cmpI64_any _ _ _).mono ?_; rintro e w' ⟨rfl, hq⟩; obtain rfl := hq.symm))
      go_ret
      exact ⟨congrArg (fun n => Ending.returned (Value.int .i64 n)) (by simp [Vl.cmpV, *]), rfl⟩
  · go_enter Try.func11, Try.ntmps11
    go_wp2_with (first | (go_at_call 37; refine (cmpInt_any _ _ _).mono ?_; rintro e w' ⟨rfl, hq⟩; obtain rfl := hq.symm))
    go_ret
    exact ⟨congrArg (fun n => Ending.returned (Value.int .i64 n)) (by simp [Vl.cmpV, *]), rfl⟩

end Go.Proofs.Ytanljohnmaokeaa
