/- The map of the kinds: made, and looked up. -/
import Derived.Test.YtaclkmhgbmencaaV2
import Derived.WideMake
namespace Go.Proofs.Ytaclkmhgbmencaa
open Go.RowKit
namespace Vl

/-- What a kind does, as three functions' numbers. -/
def kAgg (a b c : Nat) : Value := .agg #[.func (.func a) #[] #[], .func (.func b) #[] #[], .func (.func c) #[] #[]]
def kE0 : Array MapEntry := #[]
def kE1 : Array MapEntry := kE0.push ⟨.int .i64 0, kAgg 41 42 43, 0⟩
def kE2 : Array MapEntry := kE1.push ⟨.int .i64 1, kAgg 44 45 46, 1⟩
def kE3 : Array MapEntry := kE2.push ⟨.int .i64 2, kAgg 47 48 49, 2⟩
def kE4 : Array MapEntry := kE3.push ⟨.int .i64 3, kAgg 50 51 52, 3⟩
def kE5 : Array MapEntry := kE4.push ⟨.int .i64 4, kAgg 53 54 55, 4⟩

theorem mapUpd {P : Program} {T K E : TypeId} (hT : P.underlying T = some (.map K E)) (hK : P.underlying K = some (.int .i64)) (w : World) (es : Array MapEntry) (c : Nat) (i : Int) (x : Value)
    (hf : Instr.findNow (.int .i64) (.int .i64 i) es.toList 0 = some none) :
    (Instr.mapUpdate T (.map (some w.heap.size)) (.int .i64 i) x).run P (w.alloc (.map es c)) = .ok () (w.alloc (.map (es.push ⟨.int .i64 i, x, c⟩) (c + 1))) := by
  have hb : (w.alloc (.map es c)).heap[w.heap.size]? = some (.map es c) := by show (w.heap.push _)[w.heap.size]? = _; simp
  have hc : (Instr.checkKey false 10000 K (.int .i64 i)).run P (w.alloc (.map es c)) = .ok () (w.alloc (.map es c)) := MapKept.run_checkKey (k := .int .i64 i) hK (by simp [MapKept.IsKey]) false 9999
  simp [Instr.mapUpdate, run_underlying hT, MapKept.run_getObj_map hb, hc, MapKept.run_findKey hK hf, MapKept.run_setObj_map _ hb, Result.andThen]
  have e : (w.heap.push (.map es c)).setIfInBounds w.heap.size (.map (es.push ⟨.int .i64 i, x, c⟩) (c + 1)) = w.heap.push (.map (es.push ⟨.int .i64 i, x, c⟩) (c + 1)) := by
    apply Array.ext_getElem?
    intro j
    rw [Array.getElem?_setIfInBounds, Array.getElem?_push, Array.getElem?_push, Array.size_push]
    by_cases h : w.heap.size = j
    · subst h; simp
    · rw [if_neg h, if_neg (fun e => h e.symm), if_neg (fun e => h e.symm)]
  show (⟨(w.heap.push (.map es c)).setIfInBounds w.heap.size (.map (es.push ⟨.int .i64 i, x, c⟩) (c + 1)), _, _, _, _⟩ : World) = _
  rw [e]
  rfl

theorem mapLook {P : Program} {T K E : TypeId} (hT : P.underlying T = some (.map K E)) (hK : P.underlying K = some (.int .i64)) (w : World) (r : Nat) (es : Array MapEntry) (c : Nat) (i : Int) (j : Nat) (x : Value)
    (hb : w.heap[r]? = some (.map es c)) (hf : Instr.findNow (.int .i64) (.int .i64 i) es.toList 0 = some (some (j, x))) :
    (Instr.lookup T (.map (some r)) (.int .i64 i) true).run P w = .ok (.tuple #[x, .bool true]) w := by
  have hc : (Instr.checkKey es.isEmpty 10000 K (.int .i64 i)).run P w = .ok () w := MapKept.run_checkKey (k := .int .i64 i) hK (by simp [MapKept.IsKey]) _ 9999
  simp [Instr.lookup, run_underlying hT, MapKept.run_getObj_map hb, hc, MapKept.run_findKey hK hf, Result.andThen]

theorem mapNone {P : Program} {T K E : TypeId} (hT : P.underlying T = some (.map K E)) (hK : P.underlying K = some (.int .i64)) (w : World) (r : Nat) (es : Array MapEntry) (c : Nat) (i : Int) (z : Value)
    (hb : w.heap[r]? = some (.map es c)) (hz : (zeroValue E).run P w = .ok z w) (hf : Instr.findNow (.int .i64) (.int .i64 i) es.toList 0 = some none) :
    (Instr.lookup T (.map (some r)) (.int .i64 i) true).run P w = .ok (.tuple #[z, .bool false]) w := by
  have hc : (Instr.checkKey es.isEmpty 10000 K (.int .i64 i)).run P w = .ok () w := MapKept.run_checkKey (k := .int .i64 i) hK (by simp [MapKept.IsKey]) _ 9999
  simp [Instr.lookup, run_underlying hT, MapKept.run_getObj_map hb, hc, MapKept.run_findKey hK hf, hz, Result.andThen]

theorem kFind (i : Int) (h : i < 0 ∨ 4 < i) : Instr.findNow (.int .i64) (.int .i64 i) kE5.toList 0 = some none := by
  have h0 : (i == 0) = false := beq_eq_false_iff_ne.2 (by omega)
  have h1 : (i == 1) = false := beq_eq_false_iff_ne.2 (by omega)
  have h2 : (i == 2) = false := beq_eq_false_iff_ne.2 (by omega)
  have h3 : (i == 3) = false := beq_eq_false_iff_ne.2 (by omega)
  have h4 : (i == 4) = false := beq_eq_false_iff_ne.2 (by omega)
  simp [kE5, kE4, kE3, kE2, kE1, kE0, Instr.findNow, Instr.sameNow, h0, h1, h2, h3, h4]
end Vl

set_option maxRecDepth 100000 in
set_option maxHeartbeats 1000000 in
theorem kinds_any (w : World) :
    Calls Try.prog 37 #[] w fun e w' => e = .returned (.map (some w.heap.size)) ∧ w' = w.alloc (.map Vl.kE5 5) := by
  have hmm : ∀ W : World, (Instr.makeMap 66 none).run Try.prog W = .ok (.map (some W.heap.size)) (W.alloc (.map Vl.kE0 0)) := fun W => run_makeMap _ W
  have u0 := fun x => Vl.mapUpd (P := Try.prog) Try.underlying66 Try.underlying3 w Vl.kE0 0 0 x rfl
  have u1 := fun x => Vl.mapUpd (P := Try.prog) Try.underlying66 Try.underlying3 w Vl.kE1 1 1 x rfl
  have u2 := fun x => Vl.mapUpd (P := Try.prog) Try.underlying66 Try.underlying3 w Vl.kE2 2 2 x rfl
  have u3 := fun x => Vl.mapUpd (P := Try.prog) Try.underlying66 Try.underlying3 w Vl.kE3 3 3 x rfl
  have u4 := fun x => Vl.mapUpd (P := Try.prog) Try.underlying66 Try.underlying3 w Vl.kE4 4 4 x rfl
  have v0 : (Instr.mapUpdate 66 (.map (some w.heap.size)) (.int .i64 0) (.agg #[.func (.func 41) #[] #[], .func (.func 42) #[] #[], .func (.func 43) #[] #[]])).run Try.prog (w.alloc (.map Vl.kE0 0)) = .ok () (w.alloc (.map Vl.kE1 1)) := u0 _
  have v1 : (Instr.mapUpdate 66 (.map (some w.heap.size)) (.int .i64 1) (.agg #[.func (.func 44) #[] #[], .func (.func 45) #[] #[], .func (.func 46) #[] #[]])).run Try.prog (w.alloc (.map Vl.kE1 1)) = .ok () (w.alloc (.map Vl.kE2 2)) := u1 _
  have v2 : (Instr.mapUpdate 66 (.map (some w.heap.size)) (.int .i64 2) (.agg #[.func (.func 47) #[] #[], .func (.func 48) #[] #[], .func (.func 49) #[] #[]])).run Try.prog (w.alloc (.map Vl.kE2 2)) = .ok () (w.alloc (.map Vl.kE3 3)) := u2 _
  have v3 : (Instr.mapUpdate 66 (.map (some w.heap.size)) (.int .i64 3) (.agg #[.func (.func 50) #[] #[], .func (.func 51) #[] #[], .func (.func 52) #[] #[]])).run Try.prog (w.alloc (.map Vl.kE3 3)) = .ok () (w.alloc (.map Vl.kE4 4)) := u3 _
  have v4 : (Instr.mapUpdate 66 (.map (some w.heap.size)) (.int .i64 4) (.agg #[.func (.func 53) #[] #[], .func (.func 54) #[] #[], .func (.func 55) #[] #[]])).run Try.prog (w.alloc (.map Vl.kE4 4)) = .ok () (w.alloc (.map Vl.kE5 5)) := u4 _
  clear u0 u1 u2 u3 u4
  go_enter Try.func37, Try.ntmps37
  go_wp2
  go_ret
  exact ⟨rfl, rfl⟩

end Go.Proofs.Ytaclkmhgbmencaa
