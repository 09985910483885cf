/- The map of the kinds looked up; Good. -/
import Derived.Test.YtaclkmhgbmencaaK2
import Derived.Deep.RegionWith
import Derived.Deep.DeepCutAuto
import Derived.Deep.DrawnRows
namespace Go.Proofs.Ytaclkmhgbmencaa
open Go.RowKit

theorem Vl.run_store_func {P : Program} (w : World) (a : Addr) (m : Mode) (g : Fn) (x y : Array Value) : (store a (.func g x y) m).run P w = stored P w a (.func g x y) m := run_store P w a _ m rfl
theorem Vl.run_store_nilFunc {P : Program} (w : World) (a : Addr) (m : Mode) : (store a .nilFunc m).run P w = stored P w a .nilFunc m := run_store P w a _ m rfl

attribute [local go_sem] Fl.run_store_float Try.float64bits Try.float64frombits Vl.run_store_func Vl.run_store_nilFunc
attribute [local go_sem ↓] Go.wp_at_zero Go.wp_at_succ

namespace Vl
/-- Block r is the map of the kinds. -/
def IsK (w : World) (r : Nat) : Prop := w.heap[r]? = some (.map kE5 5)
theorem IsK.alloc {w : World} {r : Nat} (h : IsK w r) (o : Obj) : IsK (w.alloc o) r := by
  unfold IsK at *
  have hr : r < w.heap.size := by
    rcases Nat.lt_or_ge r w.heap.size with c | c
    · exact c
    · rw [Array.getElem?_eq_none c] at h; cases h
  show (w.heap.push o)[r]? = _
  rw [Array.getElem?_push_lt hr]
  rw [Array.getElem?_eq_getElem hr] at h
  exact h
theorem IsK.made {w : World} {r : Nat} (h : r = w.heap.size) : IsK (w.alloc (.map kE5 5)) r := by
  subst h; show (w.heap.push _)[w.heap.size]? = _; simp
theorem IsK.drew {w : World} {r : Nat} (h : IsK w r) : IsK w.drew r := h
/-- What the look-up of a kind gives. -/
def Look (P : Program) (k : Int) (X : Value) (b : Bool) : Prop := ∀ W r, IsK W r → (Instr.lookup 66 (.map (some r)) (.int .i64 k) true).run P W = .ok (.tuple #[X, .bool b]) W
end Vl

theorem Try.look0 : Vl.Look Try.prog 0 (.agg #[.func (.func 41) #[] #[], .func (.func 42) #[] #[], .func (.func 43) #[] #[]]) true := fun W r h => Vl.mapLook Try.underlying66 Try.underlying3 W r _ _ 0 0 _ h rfl
theorem Try.look1 : Vl.Look Try.prog 1 (.agg #[.func (.func 44) #[] #[], .func (.func 45) #[] #[], .func (.func 46) #[] #[]]) true := fun W r h => Vl.mapLook Try.underlying66 Try.underlying3 W r _ _ 1 1 _ h rfl
theorem Try.look2 : Vl.Look Try.prog 2 (.agg #[.func (.func 47) #[] #[], .func (.func 48) #[] #[], .func (.func 49) #[] #[]]) true := fun W r h => Vl.mapLook Try.underlying66 Try.underlying3 W r _ _ 2 2 _ h rfl
theorem Try.look3 : Vl.Look Try.prog 3 (.agg #[.func (.func 50) #[] #[], .func (.func 51) #[] #[], .func (.func 52) #[] #[]]) true := fun W r h => Vl.mapLook Try.underlying66 Try.underlying3 W r _ _ 3 3 _ h rfl
theorem Try.look4 : Vl.Look Try.prog 4 (.agg #[.func (.func 53) #[] #[], .func (.func 54) #[] #[], .func (.func 55) #[] #[]]) true := fun W r h => Vl.mapLook Try.underlying66 Try.underlying3 W r _ _ 4 4 _ h rfl
theorem Try.lookNot (k : Int) (hk : k < 0 ∨ 4 < k) : Vl.Look Try.prog k (.agg #[.nilFunc, .nilFunc, .nilFunc]) false := fun W r h => Vl.mapNone Try.underlying66 Try.underlying3 W r _ _ k _ h (Try.zeroValue64 W) (Vl.kFind k hk)

set_option maxRecDepth 100000 in
set_option maxHeartbeats 2000000 in
theorem good_0 (n : Int) (f : Nat) (s : ByteArray) (w : World) :
    Calls Try.prog 31 #[.agg #[.int .i64 0, .int .i64 n, .float .f64 f, .string s]] w fun e w' => e = .returned (.bool (Vl.goodB 0 n f s)) ∧ Below w.heap.size w w' := by
  have hl := Try.look0
  have h1 : ∀ A, (Instr.lookup 66 (.map (some (w.heap.size + 1))) (.int .i64 0) true).run Try.prog ((w.alloc A).alloc (.map Vl.kE5 5)).drew = .ok (.tuple #[.agg #[.func (.func 41) #[] #[], .func (.func 42) #[] #[], .func (.func 43) #[] #[]], .bool true]) ((w.alloc A).alloc (.map Vl.kE5 5)).drew := fun A => hl _ _ (Vl.IsK.drew (Vl.IsK.made (by simp)))
  have h2 : ∀ A Z, (Instr.lookup 66 (.map (some (w.heap.size + 1))) (.int .i64 0) true).run Try.prog (((w.alloc A).alloc (.map Vl.kE5 5)).alloc Z).drew = .ok (.tuple #[.agg #[.func (.func 41) #[] #[], .func (.func 42) #[] #[], .func (.func 43) #[] #[]], .bool true]) (((w.alloc A).alloc (.map Vl.kE5 5)).alloc Z).drew := fun A Z => hl _ _ (Vl.IsK.drew ((Vl.IsK.made (by simp)).alloc _))
  have h3 : ∀ A Z, (Instr.lookup 66 (.map (some (w.heap.size + 1 + 1))) (.int .i64 0) true).run Try.prog (((w.alloc A).alloc Z).alloc (.map Vl.kE5 5)).drew = .ok (.tuple #[.agg #[.func (.func 41) #[] #[], .func (.func 42) #[] #[], .func (.func 43) #[] #[]], .bool true]) (((w.alloc A).alloc Z).alloc (.map Vl.kE5 5)).drew := fun A Z => hl _ _ (Vl.IsK.drew (Vl.IsK.made (by simp)))
  clear hl
  go_enter Try.func31, Try.ntmps31
  go_upto_region 1 with fail
  go_cut [3, 4] (fun p t wc => ∃ b, p = .pointer (some ⟨b, 0, none⟩) ∧ t = .bool true ∧ wc.cell? ⟨b, 0, none⟩ = some (.func (.func 41) #[] #[]) ∧ wc.cell? ⟨b, 1, none⟩ = some (.func (.func 42) #[] #[]) ∧ wc.cell? ⟨b, 2, none⟩ = some (.func (.func 43) #[] #[]) ∧ wc.cell? ⟨w.heap.size, 0, none⟩ = some (.int .i64 0) ∧ wc.cell? ⟨w.heap.size, 1, none⟩ = some (.int .i64 n) ∧ wc.cell? ⟨w.heap.size, 2, none⟩ = some (.float .f64 f) ∧ wc.cell? ⟨w.heap.size, 3, none⟩ = some (.string s) ∧ Hid (b < wc.heap.size) ∧ Hid (w.heap.size < wc.heap.size) ∧ Hid (Below w.heap.size w wc))
  case first =>
    go_region_with (first | (go_at_call 37; refine (kinds_any _).mono ?_; rintro e w' ⟨rfl, rfl⟩))
    all_goals
      go_wp2_with fail
      go_meet
      case rel => exact ⟨_, rfl, rfl, by simp [go_sem], by simp [go_sem], by simp [go_sem], by simp [go_sem], by simp [go_sem], by simp [go_sem], by simp [go_sem], (by simp : _ < _), (by simp; omega : _ < _), (Below.drew (Vl.bal (Vl.bal (Vl.bal (Below.refl _ _) _) _) _) : Below _ _ _)⟩
  case rest =>
    obtain ⟨b, rfl, rfl, c0, c1, c2, d0, d1, d2, d3, _, _, HB⟩ := hcut
    clear h1 h2 h3
    go_wp2_with (first | (go_at_call 41; refine (goodNull_any _ _ _ _ _).mono ?_; rintro e w1 ⟨rfl, hb1⟩))
    go_ret
    exact ⟨rfl, Vl.btr HB.out hb1⟩

set_option maxRecDepth 100000 in
set_option maxHeartbeats 2000000 in
theorem good_1 (n : Int) (f : Nat) (s : ByteArray) (w : World) :
    Calls Try.prog 31 #[.agg #[.int .i64 1, .int .i64 n, .float .f64 f, .string s]] w fun e w' => e = .returned (.bool (Vl.goodB 1 n f s)) ∧ Below w.heap.size w w' := by
  have hl := Try.look1
  have h1 : ∀ A, (Instr.lookup 66 (.map (some (w.heap.size + 1))) (.int .i64 1) true).run Try.prog ((w.alloc A).alloc (.map Vl.kE5 5)).drew = .ok (.tuple #[.agg #[.func (.func 44) #[] #[], .func (.func 45) #[] #[], .func (.func 46) #[] #[]], .bool true]) ((w.alloc A).alloc (.map Vl.kE5 5)).drew := fun A => hl _ _ (Vl.IsK.drew (Vl.IsK.made (by simp)))
  have h2 : ∀ A Z, (Instr.lookup 66 (.map (some (w.heap.size + 1))) (.int .i64 1) true).run Try.prog (((w.alloc A).alloc (.map Vl.kE5 5)).alloc Z).drew = .ok (.tuple #[.agg #[.func (.func 44) #[] #[], .func (.func 45) #[] #[], .func (.func 46) #[] #[]], .bool true]) (((w.alloc A).alloc (.map Vl.kE5 5)).alloc Z).drew := fun A Z => hl _ _ (Vl.IsK.drew ((Vl.IsK.made (by simp)).alloc _))
  have h3 : ∀ A Z, (Instr.lookup 66 (.map (some (w.heap.size + 1 + 1))) (.int .i64 1) true).run Try.prog (((w.alloc A).alloc Z).alloc (.map Vl.kE5 5)).drew = .ok (.tuple #[.agg #[.func (.func 44) #[] #[], .func (.func 45) #[] #[], .func (.func 46) #[] #[]], .bool true]) (((w.alloc A).alloc Z).alloc (.map Vl.kE5 5)).drew := fun A Z => hl _ _ (Vl.IsK.drew (Vl.IsK.made (by simp)))
  clear hl
  go_enter Try.func31, Try.ntmps31
  go_upto_region 1 with fail
  go_cut [3, 4] (fun p t wc => ∃ b, p = .pointer (some ⟨b, 0, none⟩) ∧ t = .bool true ∧ wc.cell? ⟨b, 0, none⟩ = some (.func (.func 44) #[] #[]) ∧ wc.cell? ⟨b, 1, none⟩ = some (.func (.func 45) #[] #[]) ∧ wc.cell? ⟨b, 2, none⟩ = some (.func (.func 46) #[] #[]) ∧ wc.cell? ⟨w.heap.size, 0, none⟩ = some (.int .i64 1) ∧ wc.cell? ⟨w.heap.size, 1, none⟩ = some (.int .i64 n) ∧ wc.cell? ⟨w.heap.size, 2, none⟩ = some (.float .f64 f) ∧ wc.cell? ⟨w.heap.size, 3, none⟩ = some (.string s) ∧ Hid (b < wc.heap.size) ∧ Hid (w.heap.size < wc.heap.size) ∧ Hid (Below w.heap.size w wc))
  case first =>
    go_region_with (first | (go_at_call 37; refine (kinds_any _).mono ?_; rintro e w' ⟨rfl, rfl⟩))
    all_goals
      go_wp2_with fail
      go_meet
      case rel => exact ⟨_, rfl, rfl, by simp [go_sem], by simp [go_sem], by simp [go_sem], by simp [go_sem], by simp [go_sem], by simp [go_sem], by simp [go_sem], (by simp : _ < _), (by simp; omega : _ < _), (Below.drew (Vl.bal (Vl.bal (Vl.bal (Below.refl _ _) _) _) _) : Below _ _ _)⟩
  case rest =>
    obtain ⟨b, rfl, rfl, c0, c1, c2, d0, d1, d2, d3, _, _, HB⟩ := hcut
    clear h1 h2 h3
    go_wp2_with (first | (go_at_call 44; refine (goodBool_any _ _ _ _ _).mono ?_; rintro e w1 ⟨rfl, hb1⟩))
    go_ret
    exact ⟨rfl, Vl.btr HB.out hb1⟩

set_option maxRecDepth 100000 in
set_option maxHeartbeats 2000000 in
theorem good_2 (n : Int) (f : Nat) (s : ByteArray) (w : World) :
    Calls Try.prog 31 #[.agg #[.int .i64 2, .int .i64 n, .float .f64 f, .string s]] w fun e w' => e = .returned (.bool (Vl.goodB 2 n f s)) ∧ Below w.heap.size w w' := by
  have hl := Try.look2
  have h1 : ∀ A, (Instr.lookup 66 (.map (some (w.heap.size + 1))) (.int .i64 2) true).run Try.prog ((w.alloc A).alloc (.map Vl.kE5 5)).drew = .ok (.tuple #[.agg #[.func (.func 47) #[] #[], .func (.func 48) #[] #[], .func (.func 49) #[] #[]], .bool true]) ((w.alloc A).alloc (.map Vl.kE5 5)).drew := fun A => hl _ _ (Vl.IsK.drew (Vl.IsK.made (by simp)))
  have h2 : ∀ A Z, (Instr.lookup 66 (.map (some (w.heap.size + 1))) (.int .i64 2) true).run Try.prog (((w.alloc A).alloc (.map Vl.kE5 5)).alloc Z).drew = .ok (.tuple #[.agg #[.func (.func 47) #[] #[], .func (.func 48) #[] #[], .func (.func 49) #[] #[]], .bool true]) (((w.alloc A).alloc (.map Vl.kE5 5)).alloc Z).drew := fun A Z => hl _ _ (Vl.IsK.drew ((Vl.IsK.made (by simp)).alloc _))
  have h3 : ∀ A Z, (Instr.lookup 66 (.map (some (w.heap.size + 1 + 1))) (.int .i64 2) true).run Try.prog (((w.alloc A).alloc Z).alloc (.map Vl.kE5 5)).drew = .ok (.tuple #[.agg #[.func (.func 47) #[] #[], .func (.func 48) #[] #[], .func (.func 49) #[] #[]], .bool true]) (((w.alloc A).alloc Z).alloc (.map Vl.kE5 5)).drew := fun A Z => hl _ _ (Vl.IsK.drew (Vl.IsK.made (by simp)))
  clear hl
  go_enter Try.func31, Try.ntmps31
  go_upto_region 1 with fail
  go_cut [3, 4] (fun p t wc => ∃ b, p = .pointer (some ⟨b, 0, none⟩) ∧ t = .bool true ∧ wc.cell? ⟨b, 0, none⟩ = some (.func (.func 47) #[] #[]) ∧ wc.cell? ⟨b, 1, none⟩ = some (.func (.func 48) #[] #[]) ∧ wc.cell? ⟨b, 2, none⟩ = some (.func (.func 49) #[] #[]) ∧ wc.cell? ⟨w.heap.size, 0, none⟩ = some (.int .i64 2) ∧ wc.cell? ⟨w.heap.size, 1, none⟩ = some (.int .i64 n) ∧ wc.cell? ⟨w.heap.size, 2, none⟩ = some (.float .f64 f) ∧ wc.cell? ⟨w.heap.size, 3, none⟩ = some (.string s) ∧ Hid (b < wc.heap.size) ∧ Hid (w.heap.size < wc.heap.size) ∧ Hid (Below w.heap.size w wc))
  case first =>
    go_region_with (first | (go_at_call 37; refine (kinds_any _).mono ?_; rintro e w' ⟨rfl, rfl⟩))
    all_goals
      go_wp2_with fail
      go_meet
      case rel => exact ⟨_, rfl, rfl, by simp [go_sem], by simp [go_sem], by simp [go_sem], by simp [go_sem], by simp [go_sem], by simp [go_sem], by simp [go_sem], (by simp : _ < _), (by simp; omega : _ < _), (Below.drew (Vl.bal (Vl.bal (Vl.bal (Below.refl _ _) _) _) _) : Below _ _ _)⟩
  case rest =>
    obtain ⟨b, rfl, rfl, c0, c1, c2, d0, d1, d2, d3, _, _, HB⟩ := hcut
    clear h1 h2 h3
    go_wp2_with (first | (go_at_call 47; refine (goodInt_any _ _ _ _ _).mono ?_; rintro e w1 ⟨rfl, hb1⟩))
    go_ret
    exact ⟨rfl, Vl.btr HB.out hb1⟩

set_option maxRecDepth 100000 in
set_option maxHeartbeats 2000000 in
theorem good_3 (n : Int) (f : Nat) (s : ByteArray) (w : World) :
    Calls Try.prog 31 #[.agg #[.int .i64 3, .int .i64 n, .float .f64 f, .string s]] w fun e w' => e = .returned (.bool (Vl.goodB 3 n f s)) ∧ Below w.heap.size w w' := by
  have hl := Try.look3
  have h1 : ∀ A, (Instr.lookup 66 (.map (some (w.heap.size + 1))) (.int .i64 3) true).run Try.prog ((w.alloc A).alloc (.map Vl.kE5 5)).drew = .ok (.tuple #[.agg #[.func (.func 50) #[] #[], .func (.func 51) #[] #[], .func (.func 52) #[] #[]], .bool true]) ((w.alloc A).alloc (.map Vl.kE5 5)).drew := fun A => hl _ _ (Vl.IsK.drew (Vl.IsK.made (by simp)))
  have h2 : ∀ A Z, (Instr.lookup 66 (.map (some (w.heap.size + 1))) (.int .i64 3) true).run Try.prog (((w.alloc A).alloc (.map Vl.kE5 5)).alloc Z).drew = .ok (.tuple #[.agg #[.func (.func 50) #[] #[], .func (.func 51) #[] #[], .func (.func 52) #[] #[]], .bool true]) (((w.alloc A).alloc (.map Vl.kE5 5)).alloc Z).drew := fun A Z => hl _ _ (Vl.IsK.drew ((Vl.IsK.made (by simp)).alloc _))
  have h3 : ∀ A Z, (Instr.lookup 66 (.map (some (w.heap.size + 1 + 1))) (.int .i64 3) true).run Try.prog (((w.alloc A).alloc Z).alloc (.map Vl.kE5 5)).drew = .ok (.tuple #[.agg #[.func (.func 50) #[] #[], .func (.func 51) #[] #[], .func (.func 52) #[] #[]], .bool true]) (((w.alloc A).alloc Z).alloc (.map Vl.kE5 5)).drew := fun A Z => hl _ _ (Vl.IsK.drew (Vl.IsK.made (by simp)))
  clear hl
  go_enter Try.func31, Try.ntmps31
  go_upto_region 1 with fail
  go_cut [3, 4] (fun p t wc => ∃ b, p = .pointer (some ⟨b, 0, none⟩) ∧ t = .bool true ∧ wc.cell? ⟨b, 0, none⟩ = some (.func (.func 50) #[] #[]) ∧ wc.cell? ⟨b, 1, none⟩ = some (.func (.func 51) #[] #[]) ∧ wc.cell? ⟨b, 2, none⟩ = some (.func (.func 52) #[] #[]) ∧ wc.cell? ⟨w.heap.size, 0, none⟩ = some (.int .i64 3) ∧ wc.cell? ⟨w.heap.size, 1, none⟩ = some (.int .i64 n) ∧ wc.cell? ⟨w.heap.size, 2, none⟩ = some (.float .f64 f) ∧ wc.cell? ⟨w.heap.size, 3, none⟩ = some (.string s) ∧ Hid (b < wc.heap.size) ∧ Hid (w.heap.size < wc.heap.size) ∧ Hid (Below w.heap.size w wc))
  case first =>
    go_region_with (first | (go_at_call 37; refine (kinds_any _).mono ?_; rintro e w' ⟨rfl, rfl⟩))
    all_goals
      go_wp2_with fail
      go_meet
      case rel => exact ⟨_, rfl, rfl, by simp [go_sem], by simp [go_sem], by simp [go_sem], by simp [go_sem], by simp [go_sem], by simp [go_sem], by simp [go_sem], (by simp : _ < _), (by simp; omega : _ < _), (Below.drew (Vl.bal (Vl.bal (Vl.bal (Below.refl _ _) _) _) _) : Below _ _ _)⟩
  case rest =>
    obtain ⟨b, rfl, rfl, c0, c1, c2, d0, d1, d2, d3, _, _, HB⟩ := hcut
    clear h1 h2 h3
    go_wp2_with (first | (go_at_call 50; refine (goodFloat_any _ _ _ _ _).mono ?_; rintro e w1 ⟨rfl, hb1⟩))
    go_ret
    exact ⟨rfl, Vl.btr HB.out hb1⟩

set_option maxRecDepth 100000 in
set_option maxHeartbeats 2000000 in
theorem good_4 (n : Int) (f : Nat) (s : ByteArray) (w : World) :
    Calls Try.prog 31 #[.agg #[.int .i64 4, .int .i64 n, .float .f64 f, .string s]] w fun e w' => e = .returned (.bool (Vl.goodB 4 n f s)) ∧ Below w.heap.size w w' := by
  have hl := Try.look4
  have h1 : ∀ A, (Instr.lookup 66 (.map (some (w.heap.size + 1))) (.int .i64 4) true).run Try.prog ((w.alloc A).alloc (.map Vl.kE5 5)).drew = .ok (.tuple #[.agg #[.func (.func 53) #[] #[], .func (.func 54) #[] #[], .func (.func 55) #[] #[]], .bool true]) ((w.alloc A).alloc (.map Vl.kE5 5)).drew := fun A => hl _ _ (Vl.IsK.drew (Vl.IsK.made (by simp)))
  have h2 : ∀ A Z, (Instr.lookup 66 (.map (some (w.heap.size + 1))) (.int .i64 4) true).run Try.prog (((w.alloc A).alloc (.map Vl.kE5 5)).alloc Z).drew = .ok (.tuple #[.agg #[.func (.func 53) #[] #[], .func (.func 54) #[] #[], .func (.func 55) #[] #[]], .bool true]) (((w.alloc A).alloc (.map Vl.kE5 5)).alloc Z).drew := fun A Z => hl _ _ (Vl.IsK.drew ((Vl.IsK.made (by simp)).alloc _))
  have h3 : ∀ A Z, (Instr.lookup 66 (.map (some (w.heap.size + 1 + 1))) (.int .i64 4) true).run Try.prog (((w.alloc A).alloc Z).alloc (.map Vl.kE5 5)).drew = .ok (.tuple #[.agg #[.func (.func 53) #[] #[], .func (.func 54) #[] #[], .func (.func 55) #[] #[]], .bool true]) (((w.alloc A).alloc Z).alloc (.map Vl.kE5 5)).drew := fun A Z => hl _ _ (Vl.IsK.drew (Vl.IsK.made (by simp)))
  clear hl
  go_enter Try.func31, Try.ntmps31
  go_upto_region 1 with fail
  go_cut [3, 4] (fun p t wc => ∃ b, p = .pointer (some ⟨b, 0, none⟩) ∧ t = .bool true ∧ wc.cell? ⟨b, 0, none⟩ = some (.func (.func 53) #[] #[]) ∧ wc.cell? ⟨b, 1, none⟩ = some (.func (.func 54) #[] #[]) ∧ wc.cell? ⟨b, 2, none⟩ = some (.func (.func 55) #[] #[]) ∧ wc.cell? ⟨w.heap.size, 0, none⟩ = some (.int .i64 4) ∧ wc.cell? ⟨w.heap.size, 1, none⟩ = some (.int .i64 n) ∧ wc.cell? ⟨w.heap.size, 2, none⟩ = some (.float .f64 f) ∧ wc.cell? ⟨w.heap.size, 3, none⟩ = some (.string s) ∧ Hid (b < wc.heap.size) ∧ Hid (w.heap.size < wc.heap.size) ∧ Hid (Below w.heap.size w wc))
  case first =>
    go_region_with (first | (go_at_call 37; refine (kinds_any _).mono ?_; rintro e w' ⟨rfl, rfl⟩))
    all_goals
      go_wp2_with fail
      go_meet
      case rel => exact ⟨_, rfl, rfl, by simp [go_sem], by simp [go_sem], by simp [go_sem], by simp [go_sem], by simp [go_sem], by simp [go_sem], by simp [go_sem], (by simp : _ < _), (by simp; omega : _ < _), (Below.drew (Vl.bal (Vl.bal (Vl.bal (Below.refl _ _) _) _) _) : Below _ _ _)⟩
  case rest =>
    obtain ⟨b, rfl, rfl, c0, c1, c2, d0, d1, d2, d3, _, _, HB⟩ := hcut
    clear h1 h2 h3
    go_wp2_with (first | (go_at_call 53; refine (goodText_any _ _ _ _ _).mono ?_; rintro e w1 ⟨rfl, hb1⟩))
    go_ret
    exact ⟨rfl, Vl.btr HB.out hb1⟩

set_option maxRecDepth 100000 in
set_option maxHeartbeats 2000000 in
theorem good_not (k n : Int) (f : Nat) (s : ByteArray) (w : World) (hk : k < 0 ∨ 4 < k) :
    Calls Try.prog 31 #[.agg #[.int .i64 k, .int .i64 n, .float .f64 f, .string s]] w fun e w' => e = .returned (.bool (Vl.goodB k n f s)) ∧ Below w.heap.size w w' := by
  have HG := Vl.hid (Vl.goodB_not n f s hk)
  have hl := Try.lookNot k hk
  have h1 : ∀ A, (Instr.lookup 66 (.map (some (w.heap.size + 1))) (.int .i64 k) true).run Try.prog ((w.alloc A).alloc (.map Vl.kE5 5)).drew = .ok (.tuple #[.agg #[.nilFunc, .nilFunc, .nilFunc], .bool false]) ((w.alloc A).alloc (.map Vl.kE5 5)).drew := fun A => hl _ _ (Vl.IsK.drew (Vl.IsK.made (by simp)))
  have h2 : ∀ A Z, (Instr.lookup 66 (.map (some (w.heap.size + 1))) (.int .i64 k) true).run Try.prog (((w.alloc A).alloc (.map Vl.kE5 5)).alloc Z).drew = .ok (.tuple #[.agg #[.nilFunc, .nilFunc, .nilFunc], .bool false]) (((w.alloc A).alloc (.map Vl.kE5 5)).alloc Z).drew := fun A Z => hl _ _ (Vl.IsK.drew ((Vl.IsK.made (by simp)).alloc _))
  have h3 : ∀ A Z, (Instr.lookup 66 (.map (some (w.heap.size + 1 + 1))) (.int .i64 k) true).run Try.prog (((w.alloc A).alloc Z).alloc (.map Vl.kE5 5)).drew = .ok (.tuple #[.agg #[.nilFunc, .nilFunc, .nilFunc], .bool false]) (((w.alloc A).alloc Z).alloc (.map Vl.kE5 5)).drew := fun A Z => hl _ _ (Vl.IsK.drew (Vl.IsK.made (by simp)))
  clear hl
  clear hk
  go_enter Try.func31, Try.ntmps31
  go_upto_region 1 with fail
  go_cut [3, 4] (fun p t wc => ∃ b, p = .pointer (some ⟨b, 0, none⟩) ∧ t = .bool false ∧ wc.cell? ⟨b, 0, none⟩ = some .nilFunc ∧ wc.cell? ⟨b, 1, none⟩ = some .nilFunc ∧ wc.cell? ⟨b, 2, none⟩ = some .nilFunc ∧ wc.cell? ⟨w.heap.size, 0, none⟩ = some (.int .i64 k) ∧ wc.cell? ⟨w.heap.size, 1, none⟩ = some (.int .i64 n) ∧ wc.cell? ⟨w.heap.size, 2, none⟩ = some (.float .f64 f) ∧ wc.cell? ⟨w.heap.size, 3, none⟩ = some (.string s) ∧ Hid (b < wc.heap.size) ∧ Hid (w.heap.size < wc.heap.size) ∧ Hid (Below w.heap.size w wc))
  case first =>
    go_region_with (first | (go_at_call 37; refine (kinds_any _).mono ?_; rintro e w' ⟨rfl, rfl⟩))
    all_goals
      go_wp2_with fail
      go_meet
      case rel => exact ⟨_, rfl, rfl, by simp [go_sem], by simp [go_sem], by simp [go_sem], by simp [go_sem], by simp [go_sem], by simp [go_sem], by simp [go_sem], (by simp : _ < _), (by simp; omega : _ < _), (Below.drew (Vl.bal (Vl.bal (Vl.bal (Below.refl _ _) _) _) _) : Below _ _ _)⟩
  case rest =>
    obtain ⟨b, rfl, rfl, c0, c1, c2, d0, d1, d2, d3, _, _, HB⟩ := hcut
    clear h1 h2 h3
    go_wp2_with fail
    go_ret
    exact ⟨by rw [HG.out]; rfl, HB.out⟩

theorem good_any (k n : Int) (f : Nat) (s : ByteArray) (w : World) :
    Calls Try.prog 31 #[.agg #[.int .i64 k, .int .i64 n, .float .f64 f, .string s]] w fun e w' => e = .returned (.bool (Vl.goodB k n f s)) ∧ Below w.heap.size w w' := by
  by_cases h0 : k = 0
  · subst h0; exact good_0 n f s w
  by_cases h1 : k = 1
  · subst h1; exact good_1 n f s w
  by_cases h2 : k = 2
  · subst h2; exact good_2 n f s w
  by_cases h3 : k = 3
  · subst h3; exact good_3 n f s w
  by_cases h4 : k = 4
  · subst h4; exact good_4 n f s w
  exact good_not k n f s w (by omega)

end Go.Proofs.Ytaclkmhgbmencaa