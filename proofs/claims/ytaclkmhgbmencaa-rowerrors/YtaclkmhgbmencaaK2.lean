/- Which values are good, kind by kind. -/
import Derived.Test.YtaclkmhgbmencaaK1
namespace Go.Proofs.Ytaclkmhgbmencaa
open Go.RowKit
attribute [local go_sem] Fl.run_store_float Try.float64bits Try.float64frombits
namespace Vl
def good0 (n : Int) (f : Nat) (s : ByteArray) : Bool := (n == 0) && ((f : Int) == 0) && s.toList.isEmpty
def good1 (n : Int) (f : Nat) (s : ByteArray) : Bool := ((n == 0) || (n == 1)) && ((f : Int) == 0) && s.toList.isEmpty
def good2 (f : Nat) (s : ByteArray) : Bool := ((f : Int) == 0) && s.toList.isEmpty
def good3 (n : Int) (f : Nat) (s : ByteArray) : Bool := (n == 0) && Fl.isB f && s.toList.isEmpty
def good4 (n : Int) (f : Nat) (s : ByteArray) : Bool := (n == 0) && ((f : Int) == 0) && decide ((s.size : Int) ≤ 256)
/-- Is a value good? -/
def goodB (k n : Int) (f : Nat) (s : ByteArray) : Bool :=
  if k = 0 then good0 n f s else if k = 1 then good1 n f s else if k = 2 then good2 f s else if k = 3 then good3 n f s else if k = 4 then good4 n f s else false
theorem goodB_0 (n : Int) (f : Nat) (s : ByteArray) : goodB 0 n f s = good0 n f s := rfl
theorem goodB_1 (n : Int) (f : Nat) (s : ByteArray) : goodB 1 n f s = good1 n f s := rfl
theorem goodB_2 (n : Int) (f : Nat) (s : ByteArray) : goodB 2 n f s = good2 f s := rfl
theorem goodB_3 (n : Int) (f : Nat) (s : ByteArray) : goodB 3 n f s = good3 n f s := rfl
theorem goodB_4 (n : Int) (f : Nat) (s : ByteArray) : goodB 4 n f s = good4 n f s := rfl
theorem goodB_not {k : Int} (n : Int) (f : Nat) (s : ByteArray) (h : k < 0 ∨ 4 < k) : goodB k n f s = false := by
  unfold goodB; rw [if_neg (by omega), if_neg (by omega), if_neg (by omega), if_neg (by omega), if_neg (by omega)]
end Vl

set_option maxHeartbeats 400000 in
theorem noPoint_any (k n : Int) (f : Nat) (s : ByteArray) (w : World) :
    Calls Try.prog 58 #[.agg #[.int .i64 k, .int .i64 n, .float .f64 f, .string s]] w fun e w' => e = .returned (.bool ((f : Int) == 0)) ∧ w' = w.alloc (.cells #[.int .i64 k, .int .i64 n, .float .f64 f, .string s] 68) := by
  go_enter Try.func58, Try.ntmps58
  go_wp2
  go_ret
  exact ⟨rfl, rfl⟩

set_option maxHeartbeats 400000 in
theorem goodNull_any (k n : Int) (f : Nat) (s : ByteArray) (w : World) :
    Calls Try.prog 41 #[.agg #[.int .i64 k, .int .i64 n, .float .f64 f, .string s]] w fun e w' => e = .returned (.bool (Vl.good0 n f s)) ∧ Below w.heap.size w w' := by
  cases h1 : (n == 0) <;> cases h2 : ((f : Int) == 0)
  all_goals
    go_enter Try.func41, Try.ntmps41
    go_wp2_with (first | (go_at_call 58; refine (noPoint_any _ _ _ _ _).mono ?_; rintro e w' ⟨rfl, rfl⟩) | (go_at_call 61; refine (is_any _ _).mono ?_; rintro e w' ⟨rfl, hq⟩; obtain rfl := hq.symm))
    go_ret
    exact ⟨congrArg (fun b => Ending.returned (Value.bool b)) (by simp [Vl.good0, *]), by repeat (first | exact Below.refl _ _ | refine Vl.bal ?_ _)⟩

set_option maxHeartbeats 400000 in
theorem goodBool_any (k n : Int) (f : Nat) (s : ByteArray) (w : World) :
    Calls Try.prog 44 #[.agg #[.int .i64 k, .int .i64 n, .float .f64 f, .string s]] w fun e w' => e = .returned (.bool (Vl.good1 n f s)) ∧ Below w.heap.size w w' := by
  cases h1 : (n == 0) <;> cases h3 : (n == 1) <;> cases h2 : ((f : Int) == 0)
  all_goals
    go_enter Try.func44, Try.ntmps44
    go_wp2_with (first | (go_at_call 58; refine (noPoint_any _ _ _ _ _).mono ?_; rintro e w' ⟨rfl, rfl⟩) | (go_at_call 61; refine (is_any _ _).mono ?_; rintro e w' ⟨rfl, hq⟩; obtain rfl := hq.symm))
    go_ret
    exact ⟨congrArg (fun b => Ending.returned (Value.bool b)) (by simp [Vl.good1, *]), by repeat (first | exact Below.refl _ _ | refine Vl.bal ?_ _)⟩

set_option maxHeartbeats 400000 in
theorem goodInt_any (k n : Int) (f : Nat) (s : ByteArray) (w : World) :
    Calls Try.prog 47 #[.agg #[.int .i64 k, .int .i64 n, .float .f64 f, .string s]] w fun e w' => e = .returned (.bool (Vl.good2 f s)) ∧ Below w.heap.size w w' := by
  cases h2 : ((f : Int) == 0)
  all_goals
    go_enter Try.func47, Try.ntmps47
    go_wp2_with (first | (go_at_call 58; refine (noPoint_any _ _ _ _ _).mono ?_; rintro e w' ⟨rfl, rfl⟩) | (go_at_call 61; refine (is_any _ _).mono ?_; rintro e w' ⟨rfl, hq⟩; obtain rfl := hq.symm))
    go_ret
    exact ⟨congrArg (fun b => Ending.returned (Value.bool b)) (by simp [Vl.good2, *]), by repeat (first | exact Below.refl _ _ | refine Vl.bal ?_ _)⟩

set_option maxHeartbeats 400000 in
theorem goodFloat_any (k n : Int) (f : Nat) (s : ByteArray) (w : World) :
    Calls Try.prog 50 #[.agg #[.int .i64 k, .int .i64 n, .float .f64 f, .string s]] w fun e w' => e = .returned (.bool (Vl.good3 n f s)) ∧ Below w.heap.size w w' := by
  cases h1 : (n == 0) <;> cases h2 : Fl.isB f
  all_goals
    go_enter Try.func50, Try.ntmps50
    go_wp2_with (first | (go_at_call 58; refine (noPoint_any _ _ _ _ _).mono ?_; rintro e w' ⟨rfl, rfl⟩) | (go_at_call 61; refine (is_any _ _).mono ?_; rintro e w' ⟨rfl, hq⟩; obtain rfl := hq.symm))
    go_ret
    exact ⟨congrArg (fun b => Ending.returned (Value.bool b)) (by simp [Vl.good3, *]), by repeat (first | exact Below.refl _ _ | refine Vl.bal ?_ _)⟩

set_option maxHeartbeats 400000 in
theorem goodText_any (k n : Int) (f : Nat) (s : ByteArray) (w : World) :
    Calls Try.prog 53 #[.agg #[.int .i64 k, .int .i64 n, .float .f64 f, .string s]] w fun e w' => e = .returned (.bool (Vl.good4 n f s)) ∧ Below w.heap.size w w' := by
  cases h1 : (n == 0) <;> cases h2 : ((f : Int) == 0)
  all_goals
    go_enter Try.func53, Try.ntmps53
    go_wp2_with (first | (go_at_call 58; refine (noPoint_any _ _ _ _ _).mono ?_; rintro e w' ⟨rfl, rfl⟩) | (go_at_call 61; refine (is_any _ _).mono ?_; rintro e w' ⟨rfl, hq⟩; obtain rfl := hq.symm))
    go_ret
    exact ⟨congrArg (fun b => Ending.returned (Value.bool b)) (by simp [Vl.good4, *]), by repeat (first | exact Below.refl _ _ | refine Vl.bal ?_ _)⟩

set_option maxHeartbeats 400000 in
theorem plain_any (f : Nat) (w : World) :
    Calls Try.prog 33 #[.float .f64 f] w fun e w' => e = .returned (.bool ((f : Int) == 0)) ∧ w' = w := by
  go_enter Try.func33, Try.ntmps33
  go_wp2
  go_ret
  exact ⟨rfl, rfl⟩

set_option maxHeartbeats 1000000 in
theorem refGood_0 (n : Int) (f : Nat) (s : ByteArray) (w : World) :
    Calls Try.prog 26 #[.agg #[.int .i64 0, .int .i64 n, .float .f64 f, .string s]] w fun e w' => e = .returned (.bool (Vl.goodB 0 n f s)) ∧ Below w.heap.size w w' := by
  cases h1 : (n == 0) <;> cases h2 : ((f : Int) == 0)
  all_goals
    go_enter Try.func26, Try.ntmps26
    go_wp2_with (first | (go_at_call 33; refine (plain_any _ _).mono ?_; rintro e w' ⟨rfl, hq⟩; obtain rfl := hq.symm) | (go_at_call 34; refine (refIs_any _ _).mono ?_; rintro e w' ⟨rfl, hq⟩; obtain rfl := hq.symm))
    go_ret
    exact ⟨congrArg (fun b => Ending.returned (Value.bool b)) (by rw [Vl.goodB_0]; simp [Vl.good0, *]), by repeat (first | exact Below.refl _ _ | refine Vl.bal ?_ _)⟩

set_option maxHeartbeats 1000000 in
theorem refGood_1 (n : Int) (f : Nat) (s : ByteArray) (w : World) :
    Calls Try.prog 26 #[.agg #[.int .i64 1, .int .i64 n, .float .f64 f, .string s]] w fun e w' => e = .returned (.bool (Vl.goodB 1 n f s)) ∧ Below w.heap.size w w' := by
  cases h1 : (n == 0) <;> cases h3 : (n == 1) <;> cases h2 : ((f : Int) == 0)
  all_goals
    go_enter Try.func26, Try.ntmps26
    go_wp2_with (first | (go_at_call 33; refine (plain_any _ _).mono ?_; rintro e w' ⟨rfl, hq⟩; obtain rfl := hq.symm) | (go_at_call 34; refine (refIs_any _ _).mono ?_; rintro e w' ⟨rfl, hq⟩; obtain rfl := hq.symm))
    go_ret
    exact ⟨congrArg (fun b => Ending.returned (Value.bool b)) (by rw [Vl.goodB_1]; simp [Vl.good1, *]), by repeat (first | exact Below.refl _ _ | refine Vl.bal ?_ _)⟩

set_option maxHeartbeats 1000000 in
theorem refGood_2 (n : Int) (f : Nat) (s : ByteArray) (w : World) :
    Calls Try.prog 26 #[.agg #[.int .i64 2, .int .i64 n, .float .f64 f, .string s]] w fun e w' => e = .returned (.bool (Vl.goodB 2 n f s)) ∧ Below w.heap.size w w' := by
  cases h2 : ((f : Int) == 0)
  all_goals
    go_enter Try.func26, Try.ntmps26
    go_wp2_with (first | (go_at_call 33; refine (plain_any _ _).mono ?_; rintro e w' ⟨rfl, hq⟩; obtain rfl := hq.symm) | (go_at_call 34; refine (refIs_any _ _).mono ?_; rintro e w' ⟨rfl, hq⟩; obtain rfl := hq.symm))
    go_ret
    exact ⟨congrArg (fun b => Ending.returned (Value.bool b)) (by rw [Vl.goodB_2]; simp [Vl.good2, *]), by repeat (first | exact Below.refl _ _ | refine Vl.bal ?_ _)⟩

set_option maxHeartbeats 1000000 in
theorem refGood_3 (n : Int) (f : Nat) (s : ByteArray) (w : World) :
    Calls Try.prog 26 #[.agg #[.int .i64 3, .int .i64 n, .float .f64 f, .string s]] w fun e w' => e = .returned (.bool (Vl.goodB 3 n f s)) ∧ Below w.heap.size w w' := by
  cases h1 : (n == 0) <;> cases h2 : Fl.isB f
  all_goals
    go_enter Try.func26, Try.ntmps26
    go_wp2_with (first | (go_at_call 33; refine (plain_any _ _).mono ?_; rintro e w' ⟨rfl, hq⟩; obtain rfl := hq.symm) | (go_at_call 34; refine (refIs_any _ _).mono ?_; rintro e w' ⟨rfl, hq⟩; obtain rfl := hq.symm))
    go_ret
    exact ⟨congrArg (fun b => Ending.returned (Value.bool b)) (by rw [Vl.goodB_3]; simp [Vl.good3, *]), by repeat (first | exact Below.refl _ _ | refine Vl.bal ?_ _)⟩

set_option maxHeartbeats 1000000 in
theorem refGood_4 (n : Int) (f : Nat) (s : ByteArray) (w : World) :
    Calls Try.prog 26 #[.agg #[.int .i64 4, .int .i64 n, .float .f64 f, .string s]] w fun e w' => e = .returned (.bool (Vl.goodB 4 n f s)) ∧ Below w.heap.size w w' := by
  cases h1 : (n == 0) <;> cases h2 : ((f : Int) == 0)
  all_goals
    go_enter Try.func26, Try.ntmps26
    go_wp2_with (first | (go_at_call 33; refine (plain_any _ _).mono ?_; rintro e w' ⟨rfl, hq⟩; obtain rfl := hq.symm) | (go_at_call 34; refine (refIs_any _ _).mono ?_; rintro e w' ⟨rfl, hq⟩; obtain rfl := hq.symm))
    go_ret
    exact ⟨congrArg (fun b => Ending.returned (Value.bool b)) (by rw [Vl.goodB_4]; simp [Vl.good4, *]), by repeat (first | exact Below.refl _ _ | refine Vl.bal ?_ _)⟩

set_option maxHeartbeats 1000000 in
theorem refGood_not (k n : Int) (f : Nat) (s : ByteArray) (w : World) (hk : k < 0 ∨ 4 < k) :
    Calls Try.prog 26 #[.agg #[.int .i64 k, .int .i64 n, .float .f64 f, .string s]] w fun e w' => e = .returned (.bool (Vl.goodB k n f s)) ∧ Below w.heap.size w w' := by
  have HG := Vl.hid (Vl.goodB_not n f s hk)
  have h0 : (k == 0) = false := beq_eq_false_iff_ne.2 (by omega)
  have h1 : (k == 1) = false := beq_eq_false_iff_ne.2 (by omega)
  have h2 : (k == 2) = false := beq_eq_false_iff_ne.2 (by omega)
  have h3 : (k == 3) = false := beq_eq_false_iff_ne.2 (by omega)
  have h4 : (k == 4) = false := beq_eq_false_iff_ne.2 (by omega)
  clear hk
  go_enter Try.func26, Try.ntmps26
  go_wp2
  go_ret
  exact ⟨by rw [HG.out]; rfl, by repeat (first | exact Below.refl _ _ | refine Vl.bal ?_ _)⟩

theorem refGood_any (k n : Int) (f : Nat) (s : ByteArray) (w : World) :
    Calls Try.prog 26 #[.agg #[.int .i64 k, .int .i64 n, .float .f64 f, .string s]] w fun e w' => e = .returned (.bool (Vl.goodB k n f s)) ∧ Below w.heap.size w w' := by
  by_cases h0 : k = 0
  · subst h0; exact refGood_0 n f s w
  by_cases h1 : k = 1
  · subst h1; exact refGood_1 n f s w
  by_cases h2 : k = 2
  · subst h2; exact refGood_2 n f s w
  by_cases h3 : k = 3
  · subst h3; exact refGood_3 n f s w
  by_cases h4 : k = 4
  · subst h4; exact refGood_4 n f s w
  exact refGood_not k n f s w (by omega)

end Go.Proofs.Ytaclkmhgbmencaa