/- Three small numbers that came in as an array. -/
import Derived.Test.YtjnaafgiokdcbaaGreatDoorIop
namespace Go.Proofs.YtjnaafgiokdcbaaGreatDoor
open Go.ChangeShapes Go.WideShapes Go.ChangeAt Go.RowKit

theorem Ix.array3 {α : Type} {cs : Array α} (h : cs.size = 3) : ∃ c0 c1 c2, cs = #[c0, c1, c2] := by
  obtain ⟨l⟩ := cs
  match l, h with
  | [c0, c1, c2], _ => exact ⟨c0, c1, c2, rfl⟩
theorem Ix.wf8 {n : Int} (h : (Lit.int .i8 n).wf = true) : -128 ≤ n ∧ n ≤ 127 := by
  simp only [Lit.wf, IntKind.min, IntKind.max, IntKind.signed, IntKind.bits, Bool.and_eq_true, decide_eq_true_eq, if_true] at h
  omega

set_option maxRecDepth 100000 in
theorem open_tri8 {H : Type} {enc : TypeId × Value → H} {W : World} {base : Nat} {v : Value} {d : DataW H} {p : List MemPlace} (hv : Value.okWide Tryz.prog W .any base 65 v) (h : DataW.Trod enc Tryz.prog W 0 (fun _ => true) true 65 v d p) :
    ∃ x y z : Int, v = .agg #[.int .i8 x, .int .i8 y, .int .i8 z] ∧ ((-128 ≤ x ∧ x ≤ 127) ∧ (-128 ≤ y ∧ y ≤ 127) ∧ (-128 ≤ z ∧ z ≤ 127)) := by
  simp only [Value.okWide, Tryz.underlying65] at hv
  obtain ⟨cs, rfl, hsz, _⟩ := hv
  have c3 : Tryz.prog.cellsOf 65 = 3 := by kernel_rfl
  have c1' : Tryz.prog.cellsOf 64 = 1 := by kernel_rfl
  obtain ⟨c0, c1, c2, rfl⟩ := Ix.array3 (hsz.trans c3)
  obtain ⟨fuel, hf⟩ := h
  obtain ⟨xs, m, _, _, _, hl, hel⟩ := DataW.trod_array Tryz.underlying65 hf
  have h0 := hel 0 (by omega)
  have h1 := hel 1 (by omega)
  have h2 := hel 2 (by omega)
  rw [c1', List.getElem?_eq_getElem (by omega)] at h0 h1 h2
  obtain ⟨x, e0, _, wx⟩ := DataW.trod_int Tryz.underlying64 h0
  obtain ⟨y, e1, _, wy⟩ := DataW.trod_int Tryz.underlying64 h1
  obtain ⟨z, e2, _, wz⟩ := DataW.trod_int Tryz.underlying64 h2
  simp [Value.cells] at e0 e1 e2
  subst e0 e1 e2
  exact ⟨x, y, z, rfl, Ix.wf8 wx, Ix.wf8 wy, Ix.wf8 wz⟩

end Go.Proofs.YtjnaafgiokdcbaaGreatDoor
