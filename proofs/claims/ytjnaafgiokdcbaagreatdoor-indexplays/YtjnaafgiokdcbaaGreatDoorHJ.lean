/- The map of the kinds looked up; Good. -/
import Derived.Test.YtjnaafgiokdcbaaGreatDoorHD
import Derived.Deep.RegionWith
import Derived.Deep.DeepCutAuto
import Derived.Deep.DrawnRows
namespace Go.Proofs.YtjnaafgiokdcbaaGreatDoor
open Go.RowKit

theorem Vl.run_store_func {P : Program} (w : World) (a : Addr) (m : Mode) (g : Fn) (x y : Array Value) : (store a (.func g x y) m).run P w = stored P w a (.func g x y) m := run_store P w a _ m rfl
theorem Vl.run_store_nilFunc {P : Program} (w : World) (a : Addr) (m : Mode) : (store a .nilFunc m).run P w = stored P w a .nilFunc m := run_store P w a _ m rfl

attribute [local go_sem] Fl.run_store_float Tryz.float64bits Tryz.float64frombits Vl.run_store_func Vl.run_store_nilFunc
attribute [local go_sem ↓] Go.wp_at_zero Go.wp_at_succ

namespace Vl
/-- Block r is the map of the kinds. -/
def IsK (w : World) (r : Nat) : Prop := w.heap[r]? = some (.map kE5 5)
theorem IsK.alloc {w : World} {r : Nat} (h : IsK w r) (o : Obj) : IsK (w.alloc o) r := by
  unfold IsK at *
  have hr : r < w.heap.size := by
    rcases Nat.lt_or_ge r w.heap.size with c | c
    · exact c
    · rw [Array.getElem?_eq_none c] at h; cases h
  show (w.heap.push o)[r]? = _
  rw [Array.getElem?_push_lt hr]
  rw [Array.getElem?_eq_getElem hr] at h
  exact h
theorem IsK.made {w : World} {r : Nat} (h : r = w.heap.size) : IsK (w.alloc (.map kE5 5)) r := by
  subst h; show (w.heap.push _)[w.heap.size]? = _; simp
theorem IsK.drew {w : World} {r : Nat} (h : IsK w r) : IsK w.drew r := h
/-- What the look-up of a kind gives. -/
def Look (P : Program) (k : Int) (X : Value) (b : Bool) : Prop := ∀ W r, IsK W r → (Instr.lookup 168 (.map (some r)) (.int .i64 k) true).run P W = .ok (.tuple #[X, .bool b]) W
end Vl

theorem Tryz.look0 : Vl.Look Tryz.prog 0 (.agg #[.func (.func 111) #[] #[], .func (.func 112) #[] #[], .func (.func 113) #[] #[]]) true := fun W r h => Vl.mapLook Tryz.underlying168 Tryz.underlying3 W r _ _ 0 0 _ h rfl
theorem Tryz.look1 : Vl.Look Tryz.prog 1 (.agg #[.func (.func 114) #[] #[], .func (.func 115) #[] #[], .func (.func 116) #[] #[]]) true := fun W r h => Vl.mapLook Tryz.underlying168 Tryz.underlying3 W r _ _ 1 1 _ h rfl
theorem Tryz.look2 : Vl.Look Tryz.prog 2 (.agg #[.func (.func 117) #[] #[], .func (.func 118) #[] #[], .func (.func 119) #[] #[]]) true := fun W r h => Vl.mapLook Tryz.underlying168 Tryz.underlying3 W r _ _ 2 2 _ h rfl
theorem Tryz.look3 : Vl.Look Tryz.prog 3 (.agg #[.func (.func 120) #[] #[], .func (.func 121) #[] #[], .func (.func 122) #[] #[]]) true := fun W r h => Vl.mapLook Tryz.underlying168 Tryz.underlying3 W r _ _ 3 3 _ h rfl
theorem Tryz.look4 : Vl.Look Tryz.prog 4 (.agg #[.func (.func 123) #[] #[], .func (.func 124) #[] #[], .func (.func 125) #[] #[]]) true := fun W r h => Vl.mapLook Tryz.underlying168 Tryz.underlying3 W r _ _ 4 4 _ h rfl
theorem Tryz.lookNot (k : Int) (hk : k < 0 ∨ 4 < k) : Vl.Look Tryz.prog k (.agg #[.nilFunc, .nilFunc, .nilFunc]) false := fun W r h => Vl.mapNone Tryz.underlying168 Tryz.underlying3 W r _ _ k _ h (Tryz.zeroValue166 W) (Vl.kFind k hk)

set_option maxRecDepth 100000 in
set_option maxHeartbeats 2000000 in
theorem good_0 (n : Int) (f : Nat) (s : ByteArray) (w : World) :
    Calls Tryz.prog 88 #[.agg #[.int .i64 0, .int .i64 n, .float .f64 f, .string s]] w fun e w' => e = .returned (.bool (Vl.goodB 0 n f s)) ∧ Below w.heap.size w w' := by
  have hl := Tryz.look0
  have h1 : ∀ A, (Instr.lookup 168 (.map (some (w.heap.size + 1))) (.int .i64 0) true).run Tryz.prog ((w.alloc A).alloc (.map Vl.kE5 5)).drew = .ok (.tuple #[.agg #[.func (.func 111) #[] #[], .func (.func 112) #[] #[], .func (.func 113) #[] #[]], .bool true]) ((w.alloc A).alloc (.map Vl.kE5 5)).drew := fun A => hl _ _ (Vl.IsK.drew (Vl.IsK.made (by simp)))
  have h2 : ∀ A Z, (Instr.lookup 168 (.map (some (w.heap.size + 1))) (.int .i64 0) true).run Tryz.prog (((w.alloc A).alloc (.map Vl.kE5 5)).alloc Z).drew = .ok (.tuple #[.agg #[.func (.func 111) #[] #[], .func (.func 112) #[] #[], .func (.func 113) #[] #[]], .bool true]) (((w.alloc A).alloc (.map Vl.kE5 5)).alloc Z).drew := fun A Z => hl _ _ (Vl.IsK.drew ((Vl.IsK.made (by simp)).alloc _))
  have h3 : ∀ A Z, (Instr.lookup 168 (.map (some (w.heap.size + 1 + 1))) (.int .i64 0) true).run Tryz.prog (((w.alloc A).alloc Z).alloc (.map Vl.kE5 5)).drew = .ok (.tuple #[.agg #[.func (.func 111) #[] #[], .func (.func 112) #[] #[], .func (.func 113) #[] #[]], .bool true]) (((w.alloc A).alloc Z).alloc (.map Vl.kE5 5)).drew := fun A Z => hl _ _ (Vl.IsK.drew (Vl.IsK.made (by simp)))
  clear hl
  go_enter Tryz.func88, Tryz.ntmps88
  go_upto_region 1 with fail
  go_cut [3, 4] (fun p t wc => ∃ b, p = .pointer (some ⟨b, 0, none⟩) ∧ t = .bool true ∧ wc.cell? ⟨b, 0, none⟩ = some (.func (.func 111) #[] #[]) ∧ wc.cell? ⟨b, 1, none⟩ = some (.func (.func 112) #[] #[]) ∧ wc.cell? ⟨b, 2, none⟩ = some (.func (.func 113) #[] #[]) ∧ wc.cell? ⟨w.heap.size, 0, none⟩ = some (.int .i64 0) ∧ wc.cell? ⟨w.heap.size, 1, none⟩ = some (.int .i64 n) ∧ wc.cell? ⟨w.heap.size, 2, none⟩ = some (.float .f64 f) ∧ wc.cell? ⟨w.heap.size, 3, none⟩ = some (.string s) ∧ Hid (b < wc.heap.size) ∧ Hid (w.heap.size < wc.heap.size) ∧ Hid (Below w.heap.size w wc))
  case first =>
    go_region_with (first | (go_at_call 103; refine (kinds_any _).mono ?_; rintro e w' ⟨rfl, rfl⟩))
    all_goals
      go_wp2_with fail
      go_meet
      case rel => exact ⟨_, rfl, rfl, by simp [go_sem], by simp [go_sem], by simp [go_sem], by simp [go_sem], by simp [go_sem], by simp [go_sem], by simp [go_sem], (by simp : _ < _), (by simp; omega : _ < _), (Below.drew (Vl.bal (Vl.bal (Vl.bal (Below.refl _ _) _) _) _) : Below _ _ _)⟩
  case rest =>
    obtain ⟨b, rfl, rfl, c0, c1, c2, d0, d1, d2, d3, _, _, HB⟩ := hcut
    clear h1 h2 h3
    go_wp2_with (first | (go_at_call 111; refine (goodNull_any _ _ _ _ _).mono ?_; rintro e w1 ⟨rfl, hb1⟩))
    go_ret
    exact ⟨rfl, Vl.btr HB.out hb1⟩

set_option maxRecDepth 100000 in
set_option maxHeartbeats 2000000 in
theorem good_1 (n : Int) (f : Nat) (s : ByteArray) (w : World) :
    Calls Tryz.prog 88 #[.agg #[.int .i64 1, .int .i64 n, .float .f64 f, .string s]] w fun e w' => e = .returned (.bool (Vl.goodB 1 n f s)) ∧ Below w.heap.size w w' := by
  have hl := Tryz.look1
  have h1 : ∀ A, (Instr.lookup 168 (.map (some (w.heap.size + 1))) (.int .i64 1) true).run Tryz.prog ((w.alloc A).alloc (.map Vl.kE5 5)).drew = .ok (.tuple #[.agg #[.func (.func 114) #[] #[], .func (.func 115) #[] #[], .func (.func 116) #[] #[]], .bool true]) ((w.alloc A).alloc (.map Vl.kE5 5)).drew := fun A => hl _ _ (Vl.IsK.drew (Vl.IsK.made (by simp)))
  have h2 : ∀ A Z, (Instr.lookup 168 (.map (some (w.heap.size + 1))) (.int .i64 1) true).run Tryz.prog (((w.alloc A).alloc (.map Vl.kE5 5)).alloc Z).drew = .ok (.tuple #[.agg #[.func (.func 114) #[] #[], .func (.func 115) #[] #[], .func (.func 116) #[] #[]], .bool true]) (((w.alloc A).alloc (.map Vl.kE5 5)).alloc Z).drew := fun A Z => hl _ _ (Vl.IsK.drew ((Vl.IsK.made (by simp)).alloc _))
  have h3 : ∀ A Z, (Instr.lookup 168 (.map (some (w.heap.size + 1 + 1))) (.int .i64 1) true).run Tryz.prog (((w.alloc A).alloc Z).alloc (.map Vl.kE5 5)).drew = .ok (.tuple #[.agg #[.func (.func 114) #[] #[], .func (.func 115) #[] #[], .func (.func 116) #[] #[]], .bool true]) (((w.alloc A).alloc Z).alloc (.map Vl.kE5 5)).drew := fun A Z => hl _ _ (Vl.IsK.drew (Vl.IsK.made (by simp)))
  clear hl
  go_enter Tryz.func88, Tryz.ntmps88
  go_upto_region 1 with fail
  go_cut [3, 4] (fun p t wc => ∃ b, p = .pointer (some ⟨b, 0, none⟩) ∧ t = .bool true ∧ wc.cell? ⟨b, 0, none⟩ = some (.func (.func 114) #[] #[]) ∧ wc.cell? ⟨b, 1, none⟩ = some (.func (.func 115) #[] #[]) ∧ wc.cell? ⟨b, 2, none⟩ = some (.func (.func 116) #[] #[]) ∧ wc.cell? ⟨w.heap.size, 0, none⟩ = some (.int .i64 1) ∧ wc.cell? ⟨w.heap.size, 1, none⟩ = some (.int .i64 n) ∧ wc.cell? ⟨w.heap.size, 2, none⟩ = some (.float .f64 f) ∧ wc.cell? ⟨w.heap.size, 3, none⟩ = some (.string s) ∧ Hid (b < wc.heap.size) ∧ Hid (w.heap.size < wc.heap.size) ∧ Hid (Below w.heap.size w wc))
  case first =>
    go_region_with (first | (go_at_call 103; refine (kinds_any _).mono ?_; rintro e w' ⟨rfl, rfl⟩))
    all_goals
      go_wp2_with fail
      go_meet
      case rel => exact ⟨_, rfl, rfl, by simp [go_sem], by simp [go_sem], by simp [go_sem], by simp [go_sem], by simp [go_sem], by simp [go_sem], by simp [go_sem], (by simp : _ < _), (by simp; omega : _ < _), (Below.drew (Vl.bal (Vl.bal (Vl.bal (Below.refl _ _) _) _) _) : Below _ _ _)⟩
  case rest =>
    obtain ⟨b, rfl, rfl, c0, c1, c2, d0, d1, d2, d3, _, _, HB⟩ := hcut
    clear h1 h2 h3
    go_wp2_with (first | (go_at_call 114; refine (goodBool_any _ _ _ _ _).mono ?_; rintro e w1 ⟨rfl, hb1⟩))
    go_ret
    exact ⟨rfl, Vl.btr HB.out hb1⟩

set_option maxRecDepth 100000 in
set_option maxHeartbeats 2000000 in
theorem good_2 (n : Int) (f : Nat) (s : ByteArray) (w : World) :
    Calls Tryz.prog 88 #[.agg #[.int .i64 2, .int .i64 n, .float .f64 f, .string s]] w fun e w' => e = .returned (.bool (Vl.goodB 2 n f s)) ∧ Below w.heap.size w w' := by
  have hl := Tryz.look2
  have h1 : ∀ A, (Instr.lookup 168 (.map (some (w.heap.size + 1))) (.int .i64 2) true).run Tryz.prog ((w.alloc A).alloc (.map Vl.kE5 5)).drew = .ok (.tuple #[.agg #[.func (.func 117) #[] #[], .func (.func 118) #[] #[], .func (.func 119) #[] #[]], .bool true]) ((w.alloc A).alloc (.map Vl.kE5 5)).drew := fun A => hl _ _ (Vl.IsK.drew (Vl.IsK.made (by simp)))
  have h2 : ∀ A Z, (Instr.lookup 168 (.map (some (w.heap.size + 1))) (.int .i64 2) true).run Tryz.prog (((w.alloc A).alloc (.map Vl.kE5 5)).alloc Z).drew = .ok (.tuple #[.agg #[.func (.func 117) #[] #[], .func (.func 118) #[] #[], .func (.func 119) #[] #[]], .bool true]) (((w.alloc A).alloc (.map Vl.kE5 5)).alloc Z).drew := fun A Z => hl _ _ (Vl.IsK.drew ((Vl.IsK.made (by simp)).alloc _))
  have h3 : ∀ A Z, (Instr.lookup 168 (.map (some (w.heap.size + 1 + 1))) (.int .i64 2) true).run Tryz.prog (((w.alloc A).alloc Z).alloc (.map Vl.kE5 5)).drew = .ok (.tuple #[.agg #[.func (.func 117) #[] #[], .func (.func 118) #[] #[], .func (.func 119) #[] #[]], .bool true]) (((w.alloc A).alloc Z).alloc (.map Vl.kE5 5)).drew := fun A Z => hl _ _ (Vl.IsK.drew (Vl.IsK.made (by simp)))
  clear hl
  go_enter Tryz.func88, Tryz.ntmps88
  go_upto_region 1 with fail
  go_cut [3, 4] (fun p t wc => ∃ b, p = .pointer (some ⟨b, 0, none⟩) ∧ t = .bool true ∧ wc.cell? ⟨b, 0, none⟩ = some (.func (.func 117) #[] #[]) ∧ wc.cell? ⟨b, 1, none⟩ = some (.func (.func 118) #[] #[]) ∧ wc.cell? ⟨b, 2, none⟩ = some (.func (.func 119) #[] #[]) ∧ wc.cell? ⟨w.heap.size, 0, none⟩ = some (.int .i64 2) ∧ wc.cell? ⟨w.heap.size, 1, none⟩ = some (.int .i64 n) ∧ wc.cell? ⟨w.heap.size, 2, none⟩ = some (.float .f64 f) ∧ wc.cell? ⟨w.heap.size, 3, none⟩ = some (.string s) ∧ Hid (b < wc.heap.size) ∧ Hid (w.heap.size < wc.heap.size) ∧ Hid (Below w.heap.size w wc))
  case first =>
    go_region_with (first | (go_at_call 103; refine (kinds_any _).mono ?_; rintro e w' ⟨rfl, rfl⟩))
    all_goals
      go_wp2_with fail
      go_meet
      case rel => exact ⟨_, rfl, rfl, by simp [go_sem], by simp [go_sem], by simp [go_sem], by simp [go_sem], by simp [go_sem], by simp [go_sem], by simp [go_sem], (by simp : _ < _), (by simp; omega : _ < _), (Below.drew (Vl.bal (Vl.bal (Vl.bal (Below.refl _ _) _) _) _) : Below _ _ _)⟩
  case rest =>
    obtain ⟨b, rfl, rfl, c0, c1, c2, d0, d1, d2, d3, _, _, HB⟩ := hcut
    clear h1 h2 h3
    go_wp2_with (first | (go_at_call 117; refine (goodInt_any _ _ _ _ _).mono ?_; rintro e w1 ⟨rfl, hb1⟩))
    go_ret
    exact ⟨rfl, Vl.btr HB.out hb1⟩

set_option maxRecDepth 100000 in
set_option maxHeartbeats 2000000 in
theorem good_3 (n : Int) (f : Nat) (s : ByteArray) (w : World) :
    Calls Tryz.prog 88 #[.agg #[.int .i64 3, .int .i64 n, .float .f64 f, .string s]] w fun e w' => e = .returned (.bool (Vl.goodB 3 n f s)) ∧ Below w.heap.size w w' := by
  have hl := Tryz.look3
  have h1 : ∀ A, (Instr.lookup 168 (.map (some (w.heap.size + 1))) (.int .i64 3) true).run Tryz.prog ((w.alloc A).alloc (.map Vl.kE5 5)).drew = .ok (.tuple #[.agg #[.func (.func 120) #[] #[], .func (.func 121) #[] #[], .func (.func 122) #[] #[]], .bool true]) ((w.alloc A).alloc (.map Vl.kE5 5)).drew := fun A => hl _ _ (Vl.IsK.drew (Vl.IsK.made (by simp)))
  have h2 : ∀ A Z, (Instr.lookup 168 (.map (some (w.heap.size + 1))) (.int .i64 3) true).run Tryz.prog (((w.alloc A).alloc (.map Vl.kE5 5)).alloc Z).drew = .ok (.tuple #[.agg #[.func (.func 120) #[] #[], .func (.func 121) #[] #[], .func (.func 122) #[] #[]], .bool true]) (((w.alloc A).alloc (.map Vl.kE5 5)).alloc Z).drew := fun A Z => hl _ _ (Vl.IsK.drew ((Vl.IsK.made (by simp)).alloc _))
  have h3 : ∀ A Z, (Instr.lookup 168 (.map (some (w.heap.size + 1 + 1))) (.int .i64 3) true).run Tryz.prog (((w.alloc A).alloc Z).alloc (.map Vl.kE5 5)).drew = .ok (.tuple #[.agg #[.func (.func 120) #[] #[], .func (.func 121) #[] #[], .func (.func 122) #[] #[]], .bool true]) (((w.alloc A).alloc Z).alloc (.map Vl.kE5 5)).drew := fun A Z => hl _ _ (Vl.IsK.drew (Vl.IsK.made (by simp)))
  clear hl
  go_enter Tryz.func88, Tryz.ntmps88
  go_upto_region 1 with fail
  go_cut [3, 4] (fun p t wc => ∃ b, p = .pointer (some ⟨b, 0, none⟩) ∧ t = .bool true ∧ wc.cell? ⟨b, 0, none⟩ = some (.func (.func 120) #[] #[]) ∧ wc.cell? ⟨b, 1, none⟩ = some (.func (.func 121) #[] #[]) ∧ wc.cell? ⟨b, 2, none⟩ = some (.func (.func 122) #[] #[]) ∧ wc.cell? ⟨w.heap.size, 0, none⟩ = some (.int .i64 3) ∧ wc.cell? ⟨w.heap.size, 1, none⟩ = some (.int .i64 n) ∧ wc.cell? ⟨w.heap.size, 2, none⟩ = some (.float .f64 f) ∧ wc.cell? ⟨w.heap.size, 3, none⟩ = some (.string s) ∧ Hid (b < wc.heap.size) ∧ Hid (w.heap.size < wc.heap.size) ∧ Hid (Below w.heap.size w wc))
  case first =>
    go_region_with (first | (go_at_call 103; refine (kinds_any _).mono ?_; rintro e w' ⟨rfl, rfl⟩))
    all_goals
      go_wp2_with fail
      go_meet
      case rel => exact ⟨_, rfl, rfl, by simp [go_sem], by simp [go_sem], by simp [go_sem], by simp [go_sem], by simp [go_sem], by simp [go_sem], by simp [go_sem], (by simp : _ < _), (by simp; omega : _ < _), (Below.drew (Vl.bal (Vl.bal (Vl.bal (Below.refl _ _) _) _) _) : Below _ _ _)⟩
  case rest =>
    obtain ⟨b, rfl, rfl, c0, c1, c2, d0, d1, d2, d3, _, _, HB⟩ := hcut
    clear h1 h2 h3
    go_wp2_with (first | (go_at_call 120; refine (goodFloat_any _ _ _ _ _).mono ?_; rintro e w1 ⟨rfl, hb1⟩))
    go_ret
    exact ⟨rfl, Vl.btr HB.out hb1⟩

set_option maxRecDepth 100000 in
set_option maxHeartbeats 2000000 in
theorem good_4 (n : Int) (f : Nat) (s : ByteArray) (w : World) :
    Calls Tryz.prog 88 #[.agg #[.int .i64 4, .int .i64 n, .float .f64 f, .string s]] w fun e w' => e = .returned (.bool (Vl.goodB 4 n f s)) ∧ Below w.heap.size w w' := by
  have hl := Tryz.look4
  have h1 : ∀ A, (Instr.lookup 168 (.map (some (w.heap.size + 1))) (.int .i64 4) true).run Tryz.prog ((w.alloc A).alloc (.map Vl.kE5 5)).drew = .ok (.tuple #[.agg #[.func (.func 123) #[] #[], .func (.func 124) #[] #[], .func (.func 125) #[] #[]], .bool true]) ((w.alloc A).alloc (.map Vl.kE5 5)).drew := fun A => hl _ _ (Vl.IsK.drew (Vl.IsK.made (by simp)))
  have h2 : ∀ A Z, (Instr.lookup 168 (.map (some (w.heap.size + 1))) (.int .i64 4) true).run Tryz.prog (((w.alloc A).alloc (.map Vl.kE5 5)).alloc Z).drew = .ok (.tuple #[.agg #[.func (.func 123) #[] #[], .func (.func 124) #[] #[], .func (.func 125) #[] #[]], .bool true]) (((w.alloc A).alloc (.map Vl.kE5 5)).alloc Z).drew := fun A Z => hl _ _ (Vl.IsK.drew ((Vl.IsK.made (by simp)).alloc _))
  have h3 : ∀ A Z, (Instr.lookup 168 (.map (some (w.heap.size + 1 + 1))) (.int .i64 4) true).run Tryz.prog (((w.alloc A).alloc Z).alloc (.map Vl.kE5 5)).drew = .ok (.tuple #[.agg #[.func (.func 123) #[] #[], .func (.func 124) #[] #[], .func (.func 125) #[] #[]], .bool true]) (((w.alloc A).alloc Z).alloc (.map Vl.kE5 5)).drew := fun A Z => hl _ _ (Vl.IsK.drew (Vl.IsK.made (by simp)))
  clear hl
  go_enter Tryz.func88, Tryz.ntmps88
  go_upto_region 1 with fail
  go_cut [3, 4] (fun p t wc => ∃ b, p = .pointer (some ⟨b, 0, none⟩) ∧ t = .bool true ∧ wc.cell? ⟨b, 0, none⟩ = some (.func (.func 123) #[] #[]) ∧ wc.cell? ⟨b, 1, none⟩ = some (.func (.func 124) #[] #[]) ∧ wc.cell? ⟨b, 2, none⟩ = some (.func (.func 125) #[] #[]) ∧ wc.cell? ⟨w.heap.size, 0, none⟩ = some (.int .i64 4) ∧ wc.cell? ⟨w.heap.size, 1, none⟩ = some (.int .i64 n) ∧ wc.cell? ⟨w.heap.size, 2, none⟩ = some (.float .f64 f) ∧ wc.cell? ⟨w.heap.size, 3, none⟩ = some (.string s) ∧ Hid (b < wc.heap.size) ∧ Hid (w.heap.size < wc.heap.size) ∧ Hid (Below w.heap.size w wc))
  case first =>
    go_region_with (first | (go_at_call 103; refine (kinds_any _).mono ?_; rintro e w' ⟨rfl, rfl⟩))
    all_goals
      go_wp2_with fail
      go_meet
      case rel => exact ⟨_, rfl, rfl, by simp [go_sem], by simp [go_sem], by simp [go_sem], by simp [go_sem], by simp [go_sem], by simp [go_sem], by simp [go_sem], (by simp : _ < _), (by simp; omega : _ < _), (Below.drew (Vl.bal (Vl.bal (Vl.bal (Below.refl _ _) _) _) _) : Below _ _ _)⟩
  case rest =>
    obtain ⟨b, rfl, rfl, c0, c1, c2, d0, d1, d2, d3, _, _, HB⟩ := hcut
    clear h1 h2 h3
    go_wp2_with (first | (go_at_call 123; refine (goodText_any _ _ _ _ _).mono ?_; rintro e w1 ⟨rfl, hb1⟩))
    go_ret
    exact ⟨rfl, Vl.btr HB.out hb1⟩

set_option maxRecDepth 100000 in
set_option maxHeartbeats 2000000 in
theorem good_not (k n : Int) (f : Nat) (s : ByteArray) (w : World) (hk : k < 0 ∨ 4 < k) :
    Calls Tryz.prog 88 #[.agg #[.int .i64 k, .int .i64 n, .float .f64 f, .string s]] w fun e w' => e = .returned (.bool (Vl.goodB k n f s)) ∧ Below w.heap.size w w' := by
  have HG := Vl.hid (Vl.goodB_not n f s hk)
  have hl := Tryz.lookNot k hk
  have h1 : ∀ A, (Instr.lookup 168 (.map (some (w.heap.size + 1))) (.int .i64 k) true).run Tryz.prog ((w.alloc A).alloc (.map Vl.kE5 5)).drew = .ok (.tuple #[.agg #[.nilFunc, .nilFunc, .nilFunc], .bool false]) ((w.alloc A).alloc (.map Vl.kE5 5)).drew := fun A => hl _ _ (Vl.IsK.drew (Vl.IsK.made (by simp)))
  have h2 : ∀ A Z, (Instr.lookup 168 (.map (some (w.heap.size + 1))) (.int .i64 k) true).run Tryz.prog (((w.alloc A).alloc (.map Vl.kE5 5)).alloc Z).drew = .ok (.tuple #[.agg #[.nilFunc, .nilFunc, .nilFunc], .bool false]) (((w.alloc A).alloc (.map Vl.kE5 5)).alloc Z).drew := fun A Z => hl _ _ (Vl.IsK.drew ((Vl.IsK.made (by simp)).alloc _))
  have h3 : ∀ A Z, (Instr.lookup 168 (.map (some (w.heap.size + 1 + 1))) (.int .i64 k) true).run Tryz.prog (((w.alloc A).alloc Z).alloc (.map Vl.kE5 5)).drew = .ok (.tuple #[.agg #[.nilFunc, .nilFunc, .nilFunc], .bool false]) (((w.alloc A).alloc Z).alloc (.map Vl.kE5 5)).drew := fun A Z => hl _ _ (Vl.IsK.drew (Vl.IsK.made (by simp)))
  clear hl
  clear hk
  go_enter Tryz.func88, Tryz.ntmps88
  go_upto_region 1 with fail
  go_cut [3, 4] (fun p t wc => ∃ b, p = .pointer (some ⟨b, 0, none⟩) ∧ t = .bool false ∧ wc.cell? ⟨b, 0, none⟩ = some .nilFunc ∧ wc.cell? ⟨b, 1, none⟩ = some .nilFunc ∧ wc.cell? ⟨b, 2, none⟩ = some .nilFunc ∧ wc.cell? ⟨w.heap.size, 0, none⟩ = some (.int .i64 k) ∧ wc.cell? ⟨w.heap.size, 1, none⟩ = some (.int .i64 n) ∧ wc.cell? ⟨w.heap.size, 2, none⟩ = some (.float .f64 f) ∧ wc.cell? ⟨w.heap.size, 3, none⟩ = some (.string s) ∧ Hid (b < wc.heap.size) ∧ Hid (w.heap.size < wc.heap.size) ∧ Hid (Below w.heap.size w wc))
  case first =>
    go_region_with (first | (go_at_call 103; refine (kinds_any _).mono ?_; rintro e w' ⟨rfl, rfl⟩))
    all_goals
      go_wp2_with fail
      go_meet
      case rel => exact ⟨_, rfl, rfl, by simp [go_sem], by simp [go_sem], by simp [go_sem], by simp [go_sem], by simp [go_sem], by simp [go_sem], by simp [go_sem], (by simp : _ < _), (by simp; omega : _ < _), (Below.drew (Vl.bal (Vl.bal (Vl.bal (Below.refl _ _) _) _) _) : Below _ _ _)⟩
  case rest =>
    obtain ⟨b, rfl, rfl, c0, c1, c2, d0, d1, d2, d3, _, _, HB⟩ := hcut
    clear h1 h2 h3
    go_wp2_with fail
    go_ret
    exact ⟨by rw [HG.out]; rfl, HB.out⟩

theorem good_any (k n : Int) (f : Nat) (s : ByteArray) (w : World) :
    Calls Tryz.prog 88 #[.agg #[.int .i64 k, .int .i64 n, .float .f64 f, .string s]] w fun e w' => e = .returned (.bool (Vl.goodB k n f s)) ∧ Below w.heap.size w w' := by
  by_cases h0 : k = 0
  · subst h0; exact good_0 n f s w
  by_cases h1 : k = 1
  · subst h1; exact good_1 n f s w
  by_cases h2 : k = 2
  · subst h2; exact good_2 n f s w
  by_cases h3 : k = 3
  · subst h3; exact good_3 n f s w
  by_cases h4 : k = 4
  · subst h4; exact good_4 n f s w
  exact good_not k n f s w (by omega)

end Go.Proofs.YtjnaafgiokdcbaaGreatDoor
