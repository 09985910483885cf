/- Two values that came in as an array. -/
import Derived.Test.YtlafccdaplgfoaaDoorOpenV
namespace Go.Proofs.YtlafccdaplgfoaaDoor
open Go.ChangeShapes Go.WideShapes Go.ChangeAt Go.RowKit

set_option maxRecDepth 100000 in
theorem open_cells4 {H : Type} {enc : TypeId × Value → H} {W : World} {fuel : Nat} {c0 c1 c2 c3 : Value} {x : DataW H × List MemPlace} (h : DataW.trod enc Tryd.prog W 0 (fun _ => true) true fuel 24 [c0, c1, c2, c3] = some x) :
    ∃ v : Vl.V, c0 = .int .i64 v.k ∧ c1 = .int .i64 v.n ∧ c2 = .float .f64 v.f ∧ c3 = .string v.s ∧ v.Fit := by
  obtain ⟨y0, y1, y2, y3, m, _, _, h0, h1, h2, h3⟩ := Joins.trod_struct4 Tryd.underlying24 h
  have o1 : Tryd.prog.cellsOf 3 = 1 := by kernel_rfl
  have o2 : Tryd.prog.cellsOf 2 = 1 := by kernel_rfl
  have o3 : Tryd.prog.cellsOf 22 = 1 := by kernel_rfl
  have o4 : Tryd.prog.cellsOf 9 = 1 := by kernel_rfl
  simp only [o1, o2, o3, o4, List.drop_zero, List.drop_succ_cons, List.take_succ_cons, List.take_zero] at h0 h1 h2 h3
  obtain ⟨k, e0, _, wk⟩ := DataW.trod_int Tryd.underlying3 h0
  obtain ⟨n, e1, _, wn⟩ := DataW.trod_int Tryd.underlying2 h1
  obtain ⟨f, e2, wf⟩ := Vl.trod_float Tryd.underlying22 h2
  obtain ⟨s, e3, _, ws⟩ := DataW.trod_string Tryd.underlying9 h3
  simp at e0 e1 e3
  subst e0 e1 e2 e3
  exact ⟨⟨k, n, f, s⟩, rfl, rfl, rfl, rfl, (Vl.wf64 wk).1, (Vl.wf64 wk).2, (Vl.wf64 wn).1, (Vl.wf64 wn).2, wf, ws⟩

theorem Vl.array8 {α : Type} {cs : Array α} (h : cs.size = 8) : ∃ c0 c1 c2 c3 c4 c5 c6 c7, cs = #[c0, c1, c2, c3, c4, c5, c6, c7] := by
  obtain ⟨l⟩ := cs
  match l, h with
  | [c0, c1, c2, c3, c4, c5, c6, c7], _ => exact ⟨c0, c1, c2, c3, c4, c5, c6, c7, rfl⟩

set_option maxRecDepth 100000 in
theorem open_vpair {H : Type} {enc : TypeId × Value → H} {W : World} {base : Nat} {v : Value} {d : DataW H} {p : List MemPlace} (hv : Value.okWide Tryd.prog W .any base 53 v) (h : DataW.Trod enc Tryd.prog W 0 (fun _ => true) true 53 v d p) :
    ∃ x y : Vl.V, v = .agg #[.int .i64 x.k, .int .i64 x.n, .float .f64 x.f, .string x.s, .int .i64 y.k, .int .i64 y.n, .float .f64 y.f, .string y.s] ∧ x.Fit ∧ y.Fit := by
  simp only [Value.okWide, Tryd.underlying53] at hv
  obtain ⟨cs, rfl, hsz, _⟩ := hv
  have c8 : Tryd.prog.cellsOf 53 = 8 := by kernel_rfl
  obtain ⟨c0, c1, c2, c3, c4, c5, c6, c7, rfl⟩ := Vl.array8 (hsz.trans c8)
  obtain ⟨fuel, hf⟩ := h
  obtain ⟨xs, m, _, _, _, hl, hel⟩ := DataW.trod_array Tryd.underlying53 hf
  have h0 := hel 0 (by omega)
  have h1 := hel 1 (by omega)
  rw [cells24, List.getElem?_eq_getElem (by omega)] at h0 h1
  obtain ⟨x, rfl, rfl, rfl, rfl, fx⟩ := open_cells4 (c0 := c0) (c1 := c1) (c2 := c2) (c3 := c3) h0
  obtain ⟨y, rfl, rfl, rfl, rfl, fy⟩ := open_cells4 (c0 := c4) (c1 := c5) (c2 := c6) (c3 := c7) h1
  exact ⟨x, y, rfl, fx, fy⟩

end Go.Proofs.YtlafccdaplgfoaaDoor
