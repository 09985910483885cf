/- The map of the kinds: made, and looked up. -/
import Derived.Test.YtjnaafgiokdcbaaGreatDoorHC
import Derived.WideMake
import Derived.Test.YtjnaafgiokdcbaaGreatDoorHB
namespace Go.Proofs.YtjnaafgiokdcbaaGreatDoor
open Go.RowKit
namespace Vl

/-- What a kind does, as three functions' numbers. -/
def kAgg (a b c : Nat) : Value := .agg #[.func (.func a) #[] #[], .func (.func b) #[] #[], .func (.func c) #[] #[]]
def kE0 : Array MapEntry := #[]
def kE1 : Array MapEntry := kE0.push ⟨.int .i64 0, kAgg 111 112 113, 0⟩
def kE2 : Array MapEntry := kE1.push ⟨.int .i64 1, kAgg 114 115 116, 1⟩
def kE3 : Array MapEntry := kE2.push ⟨.int .i64 2, kAgg 117 118 119, 2⟩
def kE4 : Array MapEntry := kE3.push ⟨.int .i64 3, kAgg 120 121 122, 3⟩
def kE5 : Array MapEntry := kE4.push ⟨.int .i64 4, kAgg 123 124 125, 4⟩

theorem mapUpd {P : Program} {T K E : TypeId} (hT : P.underlying T = some (.map K E)) (hK : P.underlying K = some (.int .i64)) (w : World) (es : Array MapEntry) (c : Nat) (i : Int) (x : Value)
    (hf : Instr.findNow (.int .i64) (.int .i64 i) es.toList 0 = some none) :
    (Instr.mapUpdate T (.map (some w.heap.size)) (.int .i64 i) x).run P (w.alloc (.map es c)) = .ok () (w.alloc (.map (es.push ⟨.int .i64 i, x, c⟩) (c + 1))) := by
  have hb : (w.alloc (.map es c)).heap[w.heap.size]? = some (.map es c) := by show (w.heap.push _)[w.heap.size]? = _; simp
  have hc : (Instr.checkKey false 10000 K (.int .i64 i)).run P (w.alloc (.map es c)) = .ok () (w.alloc (.map es c)) := MapKept.run_checkKey (k := .int .i64 i) hK (by simp [MapKept.IsKey]) false 9999
  simp [Instr.mapUpdate, run_underlying hT, MapKept.run_getObj_map hb, hc, MapKept.run_findKey hK hf, MapKept.run_setObj_map _ hb, Result.andThen]
  have e : (w.heap.push (.map es c)).setIfInBounds w.heap.size (.map (es.push ⟨.int .i64 i, x, c⟩) (c + 1)) = w.heap.push (.map (es.push ⟨.int .i64 i, x, c⟩) (c + 1)) := by
    apply Array.ext_getElem?
    intro j
    rw [Array.getElem?_setIfInBounds, Array.getElem?_push, Array.getElem?_push, Array.size_push]
    by_cases h : w.heap.size = j
    · subst h; simp
    · rw [if_neg h, if_neg (fun e => h e.symm), if_neg (fun e => h e.symm)]
  show (⟨(w.heap.push (.map es c)).setIfInBounds w.heap.size (.map (es.push ⟨.int .i64 i, x, c⟩) (c + 1)), _, _, _, _⟩ : World) = _
  rw [e]
  rfl

theorem mapLook {P : Program} {T K E : TypeId} (hT : P.underlying T = some (.map K E)) (hK : P.underlying K = some (.int .i64)) (w : World) (r : Nat) (es : Array MapEntry) (c : Nat) (i : Int) (j : Nat) (x : Value)
    (hb : w.heap[r]? = some (.map es c)) (hf : Instr.findNow (.int .i64) (.int .i64 i) es.toList 0 = some (some (j, x))) :
    (Instr.lookup T (.map (some r)) (.int .i64 i) true).run P w = .ok (.tuple #[x, .bool true]) w := by
  have hc : (Instr.checkKey es.isEmpty 10000 K (.int .i64 i)).run P w = .ok () w := MapKept.run_checkKey (k := .int .i64 i) hK (by simp [MapKept.IsKey]) _ 9999
  simp [Instr.lookup, run_underlying hT, MapKept.run_getObj_map hb, hc, MapKept.run_findKey hK hf, Result.andThen]

theorem mapNone {P : Program} {T K E : TypeId} (hT : P.underlying T = some (.map K E)) (hK : P.underlying K = some (.int .i64)) (w : World) (r : Nat) (es : Array MapEntry) (c : Nat) (i : Int) (z : Value)
    (hb : w.heap[r]? = some (.map es c)) (hz : (zeroValue E).run P w = .ok z w) (hf : Instr.findNow (.int .i64) (.int .i64 i) es.toList 0 = some none) :
    (Instr.lookup T (.map (some r)) (.int .i64 i) true).run P w = .ok (.tuple #[z, .bool false]) w := by
  have hc : (Instr.checkKey es.isEmpty 10000 K (.int .i64 i)).run P w = .ok () w := MapKept.run_checkKey (k := .int .i64 i) hK (by simp [MapKept.IsKey]) _ 9999
  simp [Instr.lookup, run_underlying hT, MapKept.run_getObj_map hb, hc, MapKept.run_findKey hK hf, hz, Result.andThen]

theorem kFind (i : Int) (h : i < 0 ∨ 4 < i) : Instr.findNow (.int .i64) (.int .i64 i) kE5.toList 0 = some none := by
  have h0 : (i == 0) = false := beq_eq_false_iff_ne.2 (by omega)
  have h1 : (i == 1) = false := beq_eq_false_iff_ne.2 (by omega)
  have h2 : (i == 2) = false := beq_eq_false_iff_ne.2 (by omega)
  have h3 : (i == 3) = false := beq_eq_false_iff_ne.2 (by omega)
  have h4 : (i == 4) = false := beq_eq_false_iff_ne.2 (by omega)
  simp [kE5, kE4, kE3, kE2, kE1, kE0, Instr.findNow, Instr.sameNow, h0, h1, h2, h3, h4]
end Vl

set_option maxRecDepth 100000 in
set_option maxHeartbeats 1000000 in
theorem kinds_any (w : World) :
    Calls Tryz.prog 103 #[] w fun e w' => e = .returned (.map (some w.heap.size)) ∧ w' = w.alloc (.map Vl.kE5 5) := by
  have hmm : ∀ W : World, (Instr.makeMap 168 none).run Tryz.prog W = .ok (.map (some W.heap.size)) (W.alloc (.map Vl.kE0 0)) := fun W => run_makeMap _ W
  have u0 := fun x => Vl.mapUpd (P := Tryz.prog) Tryz.underlying168 Tryz.underlying3 w Vl.kE0 0 0 x rfl
  have u1 := fun x => Vl.mapUpd (P := Tryz.prog) Tryz.underlying168 Tryz.underlying3 w Vl.kE1 1 1 x rfl
  have u2 := fun x => Vl.mapUpd (P := Tryz.prog) Tryz.underlying168 Tryz.underlying3 w Vl.kE2 2 2 x rfl
  have u3 := fun x => Vl.mapUpd (P := Tryz.prog) Tryz.underlying168 Tryz.underlying3 w Vl.kE3 3 3 x rfl
  have u4 := fun x => Vl.mapUpd (P := Tryz.prog) Tryz.underlying168 Tryz.underlying3 w Vl.kE4 4 4 x rfl
  have v0 : (Instr.mapUpdate 168 (.map (some w.heap.size)) (.int .i64 0) (.agg #[.func (.func 111) #[] #[], .func (.func 112) #[] #[], .func (.func 113) #[] #[]])).run Tryz.prog (w.alloc (.map Vl.kE0 0)) = .ok () (w.alloc (.map Vl.kE1 1)) := u0 _
  have v1 : (Instr.mapUpdate 168 (.map (some w.heap.size)) (.int .i64 1) (.agg #[.func (.func 114) #[] #[], .func (.func 115) #[] #[], .func (.func 116) #[] #[]])).run Tryz.prog (w.alloc (.map Vl.kE1 1)) = .ok () (w.alloc (.map Vl.kE2 2)) := u1 _
  have v2 : (Instr.mapUpdate 168 (.map (some w.heap.size)) (.int .i64 2) (.agg #[.func (.func 117) #[] #[], .func (.func 118) #[] #[], .func (.func 119) #[] #[]])).run Tryz.prog (w.alloc (.map Vl.kE2 2)) = .ok () (w.alloc (.map Vl.kE3 3)) := u2 _
  have v3 : (Instr.mapUpdate 168 (.map (some w.heap.size)) (.int .i64 3) (.agg #[.func (.func 120) #[] #[], .func (.func 121) #[] #[], .func (.func 122) #[] #[]])).run Tryz.prog (w.alloc (.map Vl.kE3 3)) = .ok () (w.alloc (.map Vl.kE4 4)) := u3 _
  have v4 : (Instr.mapUpdate 168 (.map (some w.heap.size)) (.int .i64 4) (.agg #[.func (.func 123) #[] #[], .func (.func 124) #[] #[], .func (.func 125) #[] #[]])).run Tryz.prog (w.alloc (.map Vl.kE4 4)) = .ok () (w.alloc (.map Vl.kE5 5)) := u4 _
  clear u0 u1 u2 u3 u4
  go_enter Tryz.func103, Tryz.ntmps103
  go_wp2
  go_ret
  exact ⟨rfl, rfl⟩

end Go.Proofs.YtjnaafgiokdcbaaGreatDoor

/- Which values are good, kind by kind. -/
namespace Go.Proofs.YtjnaafgiokdcbaaGreatDoor
open Go.RowKit
attribute [local go_sem] Fl.run_store_float Tryz.float64bits Tryz.float64frombits
namespace Vl
def good0 (n : Int) (f : Nat) (s : ByteArray) : Bool := (n == 0) && ((f : Int) == 0) && s.toList.isEmpty
def good1 (n : Int) (f : Nat) (s : ByteArray) : Bool := ((n == 0) || (n == 1)) && ((f : Int) == 0) && s.toList.isEmpty
def good2 (f : Nat) (s : ByteArray) : Bool := ((f : Int) == 0) && s.toList.isEmpty
def good3 (n : Int) (f : Nat) (s : ByteArray) : Bool := (n == 0) && Fl.isB f && s.toList.isEmpty
def good4 (n : Int) (f : Nat) (s : ByteArray) : Bool := (n == 0) && ((f : Int) == 0) && decide ((s.size : Int) ≤ 256)
/-- Is a value good? -/
def goodB (k n : Int) (f : Nat) (s : ByteArray) : Bool :=
  if k = 0 then good0 n f s else if k = 1 then good1 n f s else if k = 2 then good2 f s else if k = 3 then good3 n f s else if k = 4 then good4 n f s else false
theorem goodB_0 (n : Int) (f : Nat) (s : ByteArray) : goodB 0 n f s = good0 n f s := rfl
theorem goodB_1 (n : Int) (f : Nat) (s : ByteArray) : goodB 1 n f s = good1 n f s := rfl
theorem goodB_2 (n : Int) (f : Nat) (s : ByteArray) : goodB 2 n f s = good2 f s := rfl
theorem goodB_3 (n : Int) (f : Nat) (s : ByteArray) : goodB 3 n f s = good3 n f s := rfl
theorem goodB_4 (n : Int) (f : Nat) (s : ByteArray) : goodB 4 n f s = good4 n f s := rfl
theorem goodB_not {k : Int} (n : Int) (f : Nat) (s : ByteArray) (h : k < 0 ∨ 4 < k) : goodB k n f s = false := by
  unfold goodB; rw [if_neg (by omega), if_neg (by omega), if_neg (by omega), if_neg (by omega), if_neg (by omega)]
end Vl

set_option maxHeartbeats 400000 in
theorem noPoint_any (k n : Int) (f : Nat) (s : ByteArray) (w : World) :
    Calls Tryz.prog 131 #[.agg #[.int .i64 k, .int .i64 n, .float .f64 f, .string s]] w fun e w' => e = .returned (.bool ((f : Int) == 0)) ∧ w' = w.alloc (.cells #[.int .i64 k, .int .i64 n, .float .f64 f, .string s] 170) := by
  go_enter Tryz.func131, Tryz.ntmps131
  go_wp2
  go_ret
  exact ⟨rfl, rfl⟩

set_option maxHeartbeats 400000 in
theorem goodNull_any (k n : Int) (f : Nat) (s : ByteArray) (w : World) :
    Calls Tryz.prog 111 #[.agg #[.int .i64 k, .int .i64 n, .float .f64 f, .string s]] w fun e w' => e = .returned (.bool (Vl.good0 n f s)) ∧ Below w.heap.size w w' := by
  cases h1 : (n == 0) <;> cases h2 : ((f : Int) == 0)
  all_goals
    go_enter Tryz.func111, Tryz.ntmps111
    go_wp2_with (first | (go_at_call 131; refine (noPoint_any _ _ _ _ _).mono ?_; rintro e w' ⟨rfl, rfl⟩) | (go_at_call 134; refine (is_any _ _).mono ?_; rintro e w' ⟨rfl, hq⟩; obtain rfl := hq.symm))
    go_ret
    exact ⟨congrArg (fun b => Ending.returned (Value.bool b)) (by simp [Vl.good0, *]), by repeat (first | exact Below.refl _ _ | refine Vl.bal ?_ _)⟩

set_option maxHeartbeats 400000 in
theorem goodBool_any (k n : Int) (f : Nat) (s : ByteArray) (w : World) :
    Calls Tryz.prog 114 #[.agg #[.int .i64 k, .int .i64 n, .float .f64 f, .string s]] w fun e w' => e = .returned (.bool (Vl.good1 n f s)) ∧ Below w.heap.size w w' := by
  cases h1 : (n == 0) <;> cases h3 : (n == 1) <;> cases h2 : ((f : Int) == 0)
  all_goals
    go_enter Tryz.func114, Tryz.ntmps114
    go_wp2_with (first | (go_at_call 131; refine (noPoint_any _ _ _ _ _).mono ?_; rintro e w' ⟨rfl, rfl⟩) | (go_at_call 134; refine (is_any _ _).mono ?_; rintro e w' ⟨rfl, hq⟩; obtain rfl := hq.symm))
    go_ret
    exact ⟨congrArg (fun b => Ending.returned (Value.bool b)) (by simp [Vl.good1, *]), by repeat (first | exact Below.refl _ _ | refine Vl.bal ?_ _)⟩

set_option maxHeartbeats 400000 in
theorem goodInt_any (k n : Int) (f : Nat) (s : ByteArray) (w : World) :
    Calls Tryz.prog 117 #[.agg #[.int .i64 k, .int .i64 n, .float .f64 f, .string s]] w fun e w' => e = .returned (.bool (Vl.good2 f s)) ∧ Below w.heap.size w w' := by
  cases h2 : ((f : Int) == 0)
  all_goals
    go_enter Tryz.func117, Tryz.ntmps117
    go_wp2_with (first | (go_at_call 131; refine (noPoint_any _ _ _ _ _).mono ?_; rintro e w' ⟨rfl, rfl⟩) | (go_at_call 134; refine (is_any _ _).mono ?_; rintro e w' ⟨rfl, hq⟩; obtain rfl := hq.symm))
    go_ret
    exact ⟨congrArg (fun b => Ending.returned (Value.bool b)) (by simp [Vl.good2, *]), by repeat (first | exact Below.refl _ _ | refine Vl.bal ?_ _)⟩

set_option maxHeartbeats 400000 in
theorem goodFloat_any (k n : Int) (f : Nat) (s : ByteArray) (w : World) :
    Calls Tryz.prog 120 #[.agg #[.int .i64 k, .int .i64 n, .float .f64 f, .string s]] w fun e w' => e = .returned (.bool (Vl.good3 n f s)) ∧ Below w.heap.size w w' := by
  cases h1 : (n == 0) <;> cases h2 : Fl.isB f
  all_goals
    go_enter Tryz.func120, Tryz.ntmps120
    go_wp2_with (first | (go_at_call 131; refine (noPoint_any _ _ _ _ _).mono ?_; rintro e w' ⟨rfl, rfl⟩) | (go_at_call 134; refine (is_any _ _).mono ?_; rintro e w' ⟨rfl, hq⟩; obtain rfl := hq.symm))
    go_ret
    exact ⟨congrArg (fun b => Ending.returned (Value.bool b)) (by simp [Vl.good3, *]), by repeat (first | exact Below.refl _ _ | refine Vl.bal ?_ _)⟩

set_option maxHeartbeats 400000 in
theorem goodText_any (k n : Int) (f : Nat) (s : ByteArray) (w : World) :
    Calls Tryz.prog 123 #[.agg #[.int .i64 k, .int .i64 n, .float .f64 f, .string s]] w fun e w' => e = .returned (.bool (Vl.good4 n f s)) ∧ Below w.heap.size w w' := by
  cases h1 : (n == 0) <;> cases h2 : ((f : Int) == 0)
  all_goals
    go_enter Tryz.func123, Tryz.ntmps123
    go_wp2_with (first | (go_at_call 131; refine (noPoint_any _ _ _ _ _).mono ?_; rintro e w' ⟨rfl, rfl⟩) | (go_at_call 134; refine (is_any _ _).mono ?_; rintro e w' ⟨rfl, hq⟩; obtain rfl := hq.symm))
    go_ret
    exact ⟨congrArg (fun b => Ending.returned (Value.bool b)) (by simp [Vl.good4, *]), by repeat (first | exact Below.refl _ _ | refine Vl.bal ?_ _)⟩

set_option maxHeartbeats 400000 in
theorem plain_any (f : Nat) (w : World) :
    Calls Tryz.prog 48 #[.float .f64 f] w fun e w' => e = .returned (.bool ((f : Int) == 0)) ∧ w' = w := by
  go_enter Tryz.func48, Tryz.ntmps48
  go_wp2
  go_ret
  exact ⟨rfl, rfl⟩

set_option maxHeartbeats 1000000 in
theorem refGood_0 (n : Int) (f : Nat) (s : ByteArray) (w : World) :
    Calls Tryz.prog 26 #[.agg #[.int .i64 0, .int .i64 n, .float .f64 f, .string s]] w fun e w' => e = .returned (.bool (Vl.goodB 0 n f s)) ∧ Below w.heap.size w w' := by
  cases h1 : (n == 0) <;> cases h2 : ((f : Int) == 0)
  all_goals
    go_enter Tryz.func26, Tryz.ntmps26
    go_wp2_with (first | (go_at_call 48; refine (plain_any _ _).mono ?_; rintro e w' ⟨rfl, hq⟩; obtain rfl := hq.symm) | (go_at_call 49; refine (refIs_any _ _).mono ?_; rintro e w' ⟨rfl, hq⟩; obtain rfl := hq.symm))
    go_ret
    exact ⟨congrArg (fun b => Ending.returned (Value.bool b)) (by rw [Vl.goodB_0]; simp [Vl.good0, *]), by repeat (first | exact Below.refl _ _ | refine Vl.bal ?_ _)⟩

set_option maxHeartbeats 1000000 in
theorem refGood_1 (n : Int) (f : Nat) (s : ByteArray) (w : World) :
    Calls Tryz.prog 26 #[.agg #[.int .i64 1, .int .i64 n, .float .f64 f, .string s]] w fun e w' => e = .returned (.bool (Vl.goodB 1 n f s)) ∧ Below w.heap.size w w' := by
  cases h1 : (n == 0) <;> cases h3 : (n == 1) <;> cases h2 : ((f : Int) == 0)
  all_goals
    go_enter Tryz.func26, Tryz.ntmps26
    go_wp2_with (first | (go_at_call 48; refine (plain_any _ _).mono ?_; rintro e w' ⟨rfl, hq⟩; obtain rfl := hq.symm) | (go_at_call 49; refine (refIs_any _ _).mono ?_; rintro e w' ⟨rfl, hq⟩; obtain rfl := hq.symm))
    go_ret
    exact ⟨congrArg (fun b => Ending.returned (Value.bool b)) (by rw [Vl.goodB_1]; simp [Vl.good1, *]), by repeat (first | exact Below.refl _ _ | refine Vl.bal ?_ _)⟩

set_option maxHeartbeats 1000000 in
theorem refGood_2 (n : Int) (f : Nat) (s : ByteArray) (w : World) :
    Calls Tryz.prog 26 #[.agg #[.int .i64 2, .int .i64 n, .float .f64 f, .string s]] w fun e w' => e = .returned (.bool (Vl.goodB 2 n f s)) ∧ Below w.heap.size w w' := by
  cases h2 : ((f : Int) == 0)
  all_goals
    go_enter Tryz.func26, Tryz.ntmps26
    go_wp2_with (first | (go_at_call 48; refine (plain_any _ _).mono ?_; rintro e w' ⟨rfl, hq⟩; obtain rfl := hq.symm) | (go_at_call 49; refine (refIs_any _ _).mono ?_; rintro e w' ⟨rfl, hq⟩; obtain rfl := hq.symm))
    go_ret
    exact ⟨congrArg (fun b => Ending.returned (Value.bool b)) (by rw [Vl.goodB_2]; simp [Vl.good2, *]), by repeat (first | exact Below.refl _ _ | refine Vl.bal ?_ _)⟩

set_option maxHeartbeats 1000000 in
theorem refGood_3 (n : Int) (f : Nat) (s : ByteArray) (w : World) :
    Calls Tryz.prog 26 #[.agg #[.int .i64 3, .int .i64 n, .float .f64 f, .string s]] w fun e w' => e = .returned (.bool (Vl.goodB 3 n f s)) ∧ Below w.heap.size w w' := by
  cases h1 : (n == 0) <;> cases h2 : Fl.isB f
  all_goals
    go_enter Tryz.func26, Tryz.ntmps26
    go_wp2_with (first | (go_at_call 48; refine (plain_any _ _).mono ?_; rintro e w' ⟨rfl, hq⟩; obtain rfl := hq.symm) | (go_at_call 49; refine (refIs_any _ _).mono ?_; rintro e w' ⟨rfl, hq⟩; obtain rfl := hq.symm))
    go_ret
    exact ⟨congrArg (fun b => Ending.returned (Value.bool b)) (by rw [Vl.goodB_3]; simp [Vl.good3, *]), by repeat (first | exact Below.refl _ _ | refine Vl.bal ?_ _)⟩

set_option maxHeartbeats 1000000 in
theorem refGood_4 (n : Int) (f : Nat) (s : ByteArray) (w : World) :
    Calls Tryz.prog 26 #[.agg #[.int .i64 4, .int .i64 n, .float .f64 f, .string s]] w fun e w' => e = .returned (.bool (Vl.goodB 4 n f s)) ∧ Below w.heap.size w w' := by
  cases h1 : (n == 0) <;> cases h2 : ((f : Int) == 0)
  all_goals
    go_enter Tryz.func26, Tryz.ntmps26
    go_wp2_with (first | (go_at_call 48; refine (plain_any _ _).mono ?_; rintro e w' ⟨rfl, hq⟩; obtain rfl := hq.symm) | (go_at_call 49; refine (refIs_any _ _).mono ?_; rintro e w' ⟨rfl, hq⟩; obtain rfl := hq.symm))
    go_ret
    exact ⟨congrArg (fun b => Ending.returned (Value.bool b)) (by rw [Vl.goodB_4]; simp [Vl.good4, *]), by repeat (first | exact Below.refl _ _ | refine Vl.bal ?_ _)⟩

set_option maxHeartbeats 1000000 in
theorem refGood_not (k n : Int) (f : Nat) (s : ByteArray) (w : World) (hk : k < 0 ∨ 4 < k) :
    Calls Tryz.prog 26 #[.agg #[.int .i64 k, .int .i64 n, .float .f64 f, .string s]] w fun e w' => e = .returned (.bool (Vl.goodB k n f s)) ∧ Below w.heap.size w w' := by
  have HG := Vl.hid (Vl.goodB_not n f s hk)
  have h0 : (k == 0) = false := beq_eq_false_iff_ne.2 (by omega)
  have h1 : (k == 1) = false := beq_eq_false_iff_ne.2 (by omega)
  have h2 : (k == 2) = false := beq_eq_false_iff_ne.2 (by omega)
  have h3 : (k == 3) = false := beq_eq_false_iff_ne.2 (by omega)
  have h4 : (k == 4) = false := beq_eq_false_iff_ne.2 (by omega)
  clear hk
  go_enter Tryz.func26, Tryz.ntmps26
  go_wp2
  go_ret
  exact ⟨by rw [HG.out]; rfl, by repeat (first | exact Below.refl _ _ | refine Vl.bal ?_ _)⟩

theorem refGood_any (k n : Int) (f : Nat) (s : ByteArray) (w : World) :
    Calls Tryz.prog 26 #[.agg #[.int .i64 k, .int .i64 n, .float .f64 f, .string s]] w fun e w' => e = .returned (.bool (Vl.goodB k n f s)) ∧ Below w.heap.size w w' := by
  by_cases h0 : k = 0
  · subst h0; exact refGood_0 n f s w
  by_cases h1 : k = 1
  · subst h1; exact refGood_1 n f s w
  by_cases h2 : k = 2
  · subst h2; exact refGood_2 n f s w
  by_cases h3 : k = 3
  · subst h3; exact refGood_3 n f s w
  by_cases h4 : k = 4
  · subst h4; exact refGood_4 n f s w
  exact refGood_not k n f s w (by omega)

end Go.Proofs.YtjnaafgiokdcbaaGreatDoor

/- The key of a value: plain. -/
namespace Go.Proofs.YtjnaafgiokdcbaaGreatDoor
namespace Ky
open Vl

/-- A whole number with a sign as one without; with its highest bit turned over. -/
def uN (n : Int) : Nat := (n % 18446744073709551616).toNat
def flipN (u : Nat) : Nat := if 9223372036854775808 ≤ u then u - 9223372036854775808 else u + 9223372036854775808
def sN (u : Nat) : Int := if 9223372036854775808 ≤ u then (u : Int) - 18446744073709551616 else (u : Int)
theorem uN_lt (n : Int) : uN n < 18446744073709551616 := by unfold uN; omega
theorem flipN_lt {u : Nat} (h : u < 18446744073709551616) : flipN u < 18446744073709551616 := by unfold flipN; split <;> omega
theorem flip_flip {u : Nat} (h : u < 18446744073709551616) : flipN (flipN u) = u := by unfold flipN; split <;> split <;> omega
theorem sN_uN {n : Int} (h1 : -9223372036854775808 ≤ n) (h2 : n ≤ 9223372036854775807) : sN (uN n) = n := by unfold sN uN; split <;> omega
theorem uN_sN {u : Nat} (h : u < 18446744073709551616) : uN (sN u) = u := by unfold sN uN; split <;> omega
theorem sN_bd {u : Nat} (h : u < 18446744073709551616) : -9223372036854775808 ≤ sN u ∧ sN u ≤ 9223372036854775807 := by unfold sN; split <;> omega
theorem flip_of {n : Int} (h1 : -9223372036854775808 ≤ n) (h2 : n ≤ 9223372036854775807) : (flipN (uN n) : Int) = n + 9223372036854775808 := by unfold flipN uN; split <;> omega

/-- What stands behind the kind's byte. -/
def bodyL (v : V) : List UInt8 :=
  if v.k = 1 then beL (uN v.n) 1 else if v.k = 2 then beL (flipN (uN v.n)) 8 else if v.k = 3 then beL (Fl.bitsN v.f) 8 else if v.k = 4 then esc v.s.data.toList ++ [0, 1] else []
def keyL (v : V) : List UInt8 := v.k.toNat.toUInt8 :: bodyL v
/-- A good value, whose fields are as they may be. -/
structure GoodV (v : V) : Prop where
  g : goodB v.k v.n v.f v.s = true
  n1 : -9223372036854775808 ≤ v.n
  n2 : v.n ≤ 9223372036854775807
  f : v.f < 18446744073709551616
theorem GoodV.cases {v : V} (h : GoodV v) : (v.k = 0 ∧ v.n = 0 ∧ v.f = 0 ∧ v.s = ⟨#[]⟩) ∨ (v.k = 1 ∧ (v.n = 0 ∨ v.n = 1) ∧ v.f = 0 ∧ v.s = ⟨#[]⟩) ∨ (v.k = 2 ∧ v.f = 0 ∧ v.s = ⟨#[]⟩) ∨
    (v.k = 3 ∧ v.n = 0 ∧ Fl.isB v.f = true ∧ v.s = ⟨#[]⟩) ∨ (v.k = 4 ∧ v.n = 0 ∧ v.f = 0 ∧ v.s.size ≤ 256) := by
  obtain ⟨k, n, f, s⟩ := v
  have hg := h.g
  by_cases hk : k < 0 ∨ 4 < k
  · rw [goodB_not n f s hk] at hg; cases hg
  rcases (by omega : k = 0 ∨ k = 1 ∨ k = 2 ∨ k = 3 ∨ k = 4) with rfl | rfl | rfl | rfl | rfl
  · rw [show goodB _ _ _ _ = good0 n f s from goodB_0 n f s] at hg
    unfold good0 at hg
    simp only [Bool.and_eq_true, beq_iff_eq] at hg
    exact .inl ⟨rfl, hg.1.1, by have := hg.1.2; show f = 0; omega, empty_of hg.2⟩
  · rw [show goodB _ _ _ _ = good1 n f s from goodB_1 n f s] at hg
    unfold good1 at hg
    simp only [Bool.and_eq_true, Bool.or_eq_true, beq_iff_eq] at hg
    exact .inr (.inl ⟨rfl, hg.1.1, by have := hg.1.2; show f = 0; omega, empty_of hg.2⟩)
  · rw [show goodB _ _ _ _ = good2 f s from goodB_2 n f s] at hg
    unfold good2 at hg
    simp only [Bool.and_eq_true, beq_iff_eq] at hg
    exact .inr (.inr (.inl ⟨rfl, by have := hg.1; show f = 0; omega, empty_of hg.2⟩))
  · rw [show goodB _ _ _ _ = good3 n f s from goodB_3 n f s] at hg
    unfold good3 at hg
    simp only [Bool.and_eq_true, beq_iff_eq] at hg
    exact .inr (.inr (.inr (.inl ⟨rfl, hg.1.1, hg.1.2, empty_of hg.2⟩)))
  · rw [show goodB _ _ _ _ = good4 n f s from goodB_4 n f s] at hg
    unfold good4 at hg
    simp only [Bool.and_eq_true, beq_iff_eq, decide_eq_true_iff] at hg
    exact .inr (.inr (.inr (.inr ⟨rfl, hg.1.1, by have := hg.1.2; show f = 0; omega, by have := hg.2; show s.size ≤ 256; omega⟩)))
theorem empty_b : (⟨#[]⟩ : ByteArray).toList.isEmpty = true := by rw [ByteArray.toList_eq]; rfl
theorem good_0 : GoodV ⟨0, 0, 0, ⟨#[]⟩⟩ := ⟨by show good0 0 0 ⟨#[]⟩ = true; unfold good0; rw [empty_b]; rfl, by simp, by simp, by simp⟩
theorem good_1 {n : Int} (h : n = 0 ∨ n = 1) : GoodV ⟨1, n, 0, ⟨#[]⟩⟩ := by
  refine ⟨?_, ?_, ?_, by simp⟩
  · show good1 n 0 ⟨#[]⟩ = true
    unfold good1; rw [empty_b]; simp; omega
  · show _ ≤ n; omega
  · show n ≤ _; omega
theorem good_2 {n : Int} (h1 : -9223372036854775808 ≤ n) (h2 : n ≤ 9223372036854775807) : GoodV ⟨2, n, 0, ⟨#[]⟩⟩ := ⟨by show good2 0 ⟨#[]⟩ = true; unfold good2; rw [empty_b]; rfl, h1, h2, by simp⟩
theorem good_3 {f : Nat} (h : Fl.isB f = true) (hf : f < 18446744073709551616) : GoodV ⟨3, 0, f, ⟨#[]⟩⟩ := ⟨by show good3 0 f ⟨#[]⟩ = true; unfold good3; rw [empty_b, h]; rfl, by simp, by simp, hf⟩
theorem good_4 {s : ByteArray} (h : s.size ≤ 256) : GoodV ⟨4, 0, 0, s⟩ := ⟨by show good4 0 0 s = true; unfold good4; simp; omega, by simp, by simp, by simp⟩

theorem body_0 {v : V} (h : v.k = 0) : bodyL v = [] := by unfold bodyL; simp [h]
theorem body_1 {v : V} (h : v.k = 1) : bodyL v = beL (uN v.n) 1 := by unfold bodyL; rw [if_pos h]
theorem body_2 {v : V} (h : v.k = 2) : bodyL v = beL (flipN (uN v.n)) 8 := by unfold bodyL; rw [if_neg (by omega), if_pos h]
theorem body_3 {v : V} (h : v.k = 3) : bodyL v = beL (Fl.bitsN v.f) 8 := by unfold bodyL; rw [if_neg (by omega), if_neg (by omega), if_pos h]
theorem body_4 {v : V} (h : v.k = 4) : bodyL v = esc v.s.data.toList ++ [0, 1] := by unfold bodyL; rw [if_neg (by omega), if_neg (by omega), if_neg (by omega), if_pos h]

theorem cmpZ_congr {a b c d : Int} (h1 : a < b ↔ c < d) (h2 : b < a ↔ d < c) : cmpZ a b = cmpZ c d := by
  unfold cmpZ; simp only [h1, h2]
theorem cmpZ_zero {p q : Int} (e : cmpZ p q = 0) : p = q := by
  unfold cmpZ at e
  split at e
  · cases e
  · split at e
    · cases e
    · omega
theorem cmpV_n {a b : V} (hk : a.k = b.k) (hf : a.f = b.f) (hs : a.s = b.s) : cmpV a b = cmpZ a.n b.n := by
  unfold cmpV
  rw [cmpZ_eq hk, if_neg (by decide)]
  by_cases h : cmpZ a.n b.n = 0
  · rw [if_neg (by rw [h]; decide), hf, hs, Fl.cmpI_self, if_neg (by decide), h]; exact (cmpS_eq _ _).2 rfl
  · rw [if_pos (by simpa using h)]
theorem cmpV_fl {a b : V} (hk : a.k = b.k) (hn : a.n = b.n) (hs : a.s = b.s) : cmpV a b = Fl.cmpI a.f b.f := by
  unfold cmpV
  rw [cmpZ_eq hk, cmpZ_eq hn, if_neg (by decide), if_neg (by decide)]
  by_cases h : Fl.cmpI a.f b.f = 0
  · rw [if_neg (by rw [h]; decide), hs, h]; exact (cmpS_eq _ _).2 rfl
  · rw [if_pos (by simpa using h)]
theorem cmpV_st {a b : V} (hk : a.k = b.k) (hn : a.n = b.n) (hf : a.f = b.f) : cmpV a b = cmpS a.s b.s := by
  unfold cmpV
  rw [cmpZ_eq hk, cmpZ_eq hn, hf, Fl.cmpI_self, if_neg (by decide), if_neg (by decide), if_neg (by decide)]
theorem cmpI_bits {x y : Nat} (hx : x < 18446744073709551616) (hy : y < 18446744073709551616) : Fl.cmpI x y = cmpZ (Fl.bitsN x) (Fl.bitsN y) := by
  have h1 := Fl.bitsN_lt_iff hx hy
  have h2 := Fl.bitsN_lt_iff hy hx
  rw [Fl.cmpI_eq]
  unfold cmpZ
  repeat' split
  all_goals omega
theorem kb_lt (a b : Int) (h0 : 0 ≤ a) (h1 : a ≤ 4) (h2 : 0 ≤ b) (h3 : b ≤ 4) : (a.toNat.toUInt8 < b.toNat.toUInt8) ↔ a < b := by
  simp only [UInt8.lt_iff_toNat_lt, Nat.toUInt8, UInt8.toNat_ofNat']; omega

theorem GoodV.kind {v : V} (h : GoodV v) : 0 ≤ v.k ∧ v.k ≤ 4 := by
  rcases h.cases with h | h | h | h | h <;> omega
/-- Keys, whatever stands behind them, stand in the order of their values. -/
theorem key_cmp {a b : V} (ha : GoodV a) (hb : GoodV b) (x y : List UInt8) : Lib.compareBytes (keyL a ++ x) (keyL b ++ y) = if cmpV a b = 0 then Lib.compareBytes x y else cmpV a b := by
  obtain ⟨a0, a4⟩ := ha.kind
  obtain ⟨b0, b4⟩ := hb.kind
  unfold keyL
  rw [List.cons_append, List.cons_append, cmp_cons]
  by_cases h1 : a.k < b.k
  · rw [if_pos ((kb_lt _ _ a0 a4 b0 b4).2 h1), cmpV_k1 h1]; rfl
  by_cases h2 : b.k < a.k
  · rw [if_neg (fun e => h1 ((kb_lt _ _ a0 a4 b0 b4).1 e)), if_pos ((kb_lt _ _ b0 b4 a0 a4).2 h2), cmpV_k2 h2]; rfl
  have hk : a.k = b.k := by omega
  rw [if_neg (fun e => h1 ((kb_lt _ _ a0 a4 b0 b4).1 e)), if_neg (fun e => h2 ((kb_lt _ _ b0 b4 a0 a4).1 e))]
  have hbn1 := hb.n1
  have hbn2 := hb.n2
  have han1 := ha.n1
  have han2 := ha.n2
  rcases ha.cases with ⟨k1, k2, k3, k4⟩ | ⟨k1, k2, k3, k4⟩ | ⟨k1, k3, k4⟩ | ⟨k1, k2, k3, k4⟩ | ⟨k1, k2, k3, k4⟩ <;>
    rcases hb.cases with ⟨l1, l2, l3, l4⟩ | ⟨l1, l2, l3, l4⟩ | ⟨l1, l3, l4⟩ | ⟨l1, l2, l3, l4⟩ | ⟨l1, l2, l3, l4⟩ <;> first | (exfalso; omega) | skip
  · rw [body_0 k1, body_0 l1, cmpV_n hk (by rw [k3, l3]) (by rw [k4, l4]), k2, l2]; rfl
  · rw [body_1 k1, body_1 l1, cmpV_n hk (by rw [k3, l3]) (by rw [k4, l4]), cmp_num 1 _ _ _ _ (by unfold uN; omega) (by unfold uN; omega)]
    have e : cmpZ (uN a.n : Int) (uN b.n : Int) = cmpZ a.n b.n := cmpZ_congr (by unfold uN; omega) (by unfold uN; omega)
    rw [e]
  · rw [body_2 k1, body_2 l1, cmpV_n hk (by rw [k3, l3]) (by rw [k4, l4]), cmp_num 8 _ _ _ _ (flipN_lt (uN_lt _)) (flipN_lt (uN_lt _)), flip_of han1 han2, flip_of hbn1 hbn2]
    have e : cmpZ (a.n + 9223372036854775808) (b.n + 9223372036854775808) = cmpZ a.n b.n := cmpZ_congr (by omega) (by omega)
    rw [e]
  · rw [body_3 k1, body_3 l1, cmpV_fl hk (by rw [k2, l2]) (by rw [k4, l4]), cmp_num 8 _ _ _ _ (Fl.bitsN_lt ha.f) (Fl.bitsN_lt hb.f), cmpI_bits ha.f hb.f]
  · rw [body_4 k1, body_4 l1, cmpV_st hk (by rw [k2, l2]) (by rw [k3, l3])]
    have := cmp_esc a.s.data.toList b.s.data.toList x y
    rw [List.append_assoc, List.append_assoc]
    exact this
theorem v_ext {a b : V} (h1 : a.k = b.k) (h2 : a.n = b.n) (h3 : a.f = b.f) (h4 : a.s = b.s) : a = b := by
  cases a; cases b; simp only at h1 h2 h3 h4; subst h1 h2 h3 h4; rfl
/-- Good values at one place of the order are one. -/
theorem good_eq {a b : V} (ha : GoodV a) (hb : GoodV b) (h : cmpV a b = 0) : a = b := by
  have hk : a.k = b.k := by
    rcases Int.lt_trichotomy a.k b.k with e | e | e
    · rw [cmpV_k1 e] at h; cases h
    · exact e
    · rw [cmpV_k2 e] at h; cases h
  rcases ha.cases with ⟨k1, k2, k3, k4⟩ | ⟨k1, k2, k3, k4⟩ | ⟨k1, k3, k4⟩ | ⟨k1, k2, k3, k4⟩ | ⟨k1, k2, k3, k4⟩ <;>
    rcases hb.cases with ⟨l1, l2, l3, l4⟩ | ⟨l1, l2, l3, l4⟩ | ⟨l1, l3, l4⟩ | ⟨l1, l2, l3, l4⟩ | ⟨l1, l2, l3, l4⟩ <;> first | (exfalso; omega) | skip
  · exact v_ext hk (by rw [k2, l2]) (by rw [k3, l3]) (by rw [k4, l4])
  · rw [cmpV_n hk (by rw [k3, l3]) (by rw [k4, l4])] at h
    exact v_ext hk (cmpZ_zero h) (by rw [k3, l3]) (by rw [k4, l4])
  · rw [cmpV_n hk (by rw [k3, l3]) (by rw [k4, l4])] at h
    exact v_ext hk (cmpZ_zero h) (by rw [k3, l3]) (by rw [k4, l4])
  · rw [cmpV_fl hk (by rw [k2, l2]) (by rw [k4, l4]), cmpI_bits ha.f hb.f] at h
    have hh := cmpZ_zero h
    have e := Fl.canon_of_ord ha.f hb.f
    have h1 := Fl.bitsN_lt_iff ha.f hb.f
    have h2 := Fl.bitsN_lt_iff hb.f ha.f
    have ho : Fl.ord a.f = Fl.ord b.f := by omega
    have hc := e.1 ho
    have c1 : a.f = Fl.canonN a.f := by unfold Fl.isB at k3; exact beq_iff_eq.1 k3
    have c2 : b.f = Fl.canonN b.f := by unfold Fl.isB at l3; exact beq_iff_eq.1 l3
    exact v_ext hk (by rw [k2, l2]) (by rw [c1, c2, hc]) (by rw [k4, l4])
  · rw [cmpV_st hk (by rw [k2, l2]) (by rw [k3, l3])] at h
    exact v_ext hk (by rw [k2, l2]) (by rw [k3, l3]) ((cmpS_eq _ _).1 h)
theorem cmpV_self (a : V) : cmpV a a = 0 := by rw [cmpV_n rfl rfl rfl]; exact cmpZ_eq rfl
/-- No good value's key begins another one's. -/
theorem key_front {a b : V} (ha : GoodV a) (hb : GoodV b) {x y : List UInt8} (h : keyL a ++ x = keyL b ++ y) : a = b ∧ x = y := by
  have e := key_cmp ha hb x y
  rw [h, cmp_self] at e
  by_cases hc : cmpV a b = 0
  · rw [if_pos hc] at e
    exact ⟨good_eq ha hb hc, (eql_cmp _ _).1 e.symm⟩
  · rw [if_neg hc] at e; exact absurd e.symm hc
theorem key_inj {a b : V} (ha : GoodV a) (hb : GoodV b) (h : keyL a = keyL b) : a = b := (key_front ha hb (x := []) (y := []) (by rw [h])).1

/-- What a key is read as. -/
def KeyIs (l : List UInt8) : Option V → Prop
  | none => ∀ v, GoodV v → keyL v ≠ l
  | some v => GoodV v ∧ keyL v = l
theorem KeyIs.one {l : List UInt8} {o p : Option V} (h : KeyIs l o) (h' : KeyIs l p) : o = p := by
  cases o with
  | none => cases p with
    | none => rfl
    | some v => exact absurd h'.2 (h v h'.1)
  | some u => cases p with
    | none => exact absurd h.2 (h' u h.1)
    | some v => rw [key_inj h.1 h'.1 (h.2.trans h'.2.symm)]
theorem nvL_1 {x : List UInt8} (h : x.length = 1) : beL (nvL x) 1 = x := by have := beL_nvL x; rwa [h] at this
theorem nvL_8 {x : List UInt8} (h : x.length = 8) : beL (nvL x) 8 = x := by have := beL_nvL x; rwa [h] at this

/-- Which good value's key opens with a kind's byte: by kinds. -/
theorem key_cons {v : V} (hv : GoodV v) {c : UInt8} {x : List UInt8} (h : keyL v = c :: x) : v.k = c.toNat ∧ bodyL v = x := by
  obtain ⟨h0, h4⟩ := hv.kind
  unfold keyL at h
  injection h with h1 h2
  refine ⟨?_, h2⟩
  rw [← h1, Nat.toUInt8, UInt8.toNat_ofNat']; omega

end Ky

end Go.Proofs.YtjnaafgiokdcbaaGreatDoor
