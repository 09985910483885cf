/- Edges and whole numbers that came in, read as plain data. -/
import Derived.Test.YthikdfcndppoaaaWc1
import Derived.Lib.SmallJoins
import Derived.Deep.Slices
import Derived.ChangeSlices
import Derived.OpenShut
namespace Go.Proofs.Ythikdfcndppoaaa
open Go.ChangeShapes Go.WideShapes Go.ChangeAt Go.RowKit

theorem own : ownKnob Try.prog.godebug = none := by kernel_rfl
theorem laidOut : laidOutB Try.prog = true := by kernel_rfl
namespace Mm
theorem spot_none {w : World} {a : Addr} {v : Value} (h : w.cell? a = some v) : a = ⟨a.block, a.off, none⟩ ∧ a.block < w.heap.size := by
  have hb := World.block_lt_of_cell? w a h
  obtain ⟨b, o, s⟩ := a
  cases s with
  | none => exact ⟨rfl, hb⟩
  | some x =>
    unfold World.cell? at h
    split at h
    · simp at h
    · cases h
theorem cellsPair : Try.prog.cellsOf 31 = 2 := by kernel_rfl
theorem cellsInt : Try.prog.cellsOf 3 = 1 := by kernel_rfl
set_option maxRecDepth 100000 in
theorem open_two {H : Type} {enc : TypeId × Value → H} {W : World} {n : Nat} {cs : List Value} {y : DataW H × List MemPlace} (h : DataW.trod enc Try.prog W 0 (fun _ => true) true n 31 cs = some y) :
    ∃ a b : Int, cs = [.int .i64 a, .int .i64 b] := by
  obtain ⟨xs, m, _, _, hl, hxl, hel⟩ := DataW.trod_array Try.underlying31 h
  rw [cellsPair] at hl
  have h0 := hel 0 (by omega)
  have h1 := hel 1 (by omega)
  rw [cellsInt, List.getElem?_eq_getElem (by omega)] at h0 h1
  match cs, hl with
  | [c0, c1], _ =>
    obtain ⟨k, e0, _, _⟩ := DataW.trod_int Try.underlying3 h0
    obtain ⟨n, e1, _, _⟩ := DataW.trod_int Try.underlying3 h1
    simp at e0 e1
    subst e0 e1
    exact ⟨k, n, rfl⟩
/-- Edges that came in. -/
structure Eds (W : World) (a : Option Addr) (l c : Nat) (xs : Kn.El) : Prop where
  len : xs.length = l
  le : l ≤ c
  ein : EIn W a xs
  nil : a = none → c = 0
/-- Whole numbers that came in. -/
structure Nms (W : World) (a : Option Addr) (l c : Nat) (xs : List Int) : Prop where
  len : xs.length = l
  le : l ≤ c
  iin : IIn W a xs
end Mm

set_option maxRecDepth 100000 in
theorem open_edges {H : Type} {enc : TypeId × Value → H} {W : World} {a : Option Addr} {l c : Nat} {d : DataW H} {p : List MemPlace} (h : DataW.Trod enc Try.prog W 0 (fun _ => true) true 22 (.slice a l c) d p) :
    ∃ xs : Kn.El, Mm.Eds W a l c xs := by
  obtain ⟨fuel, hf⟩ := h
  rcases Deep.open_slice Try.underlying22 hf with ⟨hcs, _⟩ | ⟨x, l', c', m, n, D, Pl, hcs, _, hl, hm, hmm, _, hx⟩
  · simp [Value.cells] at hcs
    obtain ⟨rfl, rfl, rfl⟩ := hcs
    exact ⟨[], rfl, Nat.le_refl _, fun i x hx => by simp at hx, fun _ => rfl⟩
  · simp [Value.cells] at hcs
    obtain ⟨rfl, rfl, rfl⟩ := hcs
    rw [if_pos rfl] at hmm
    subst hmm
    have each : ∀ i, i < l → ∃ v : Int × Int, W.cell? (x.add (i * 2)) = some (.int .i64 v.1) ∧ W.cell? (x.add (i * 2 + 1)) = some (.int .i64 v.2) := fun i hi => by
      obtain ⟨cs', h1, h2⟩ := hx i (by omega)
      rw [Mm.cellsPair] at h1
      obtain ⟨_, _, hc⟩ := World.cells?_some h1
      obtain ⟨v, u, rfl⟩ := Mm.open_two h2
      have e0 := hc 0 (by omega)
      have e1 := hc 1 (by omega)
      rw [Deep.add_add] at e0 e1
      exact ⟨(v, u), e0, e1⟩
    obtain ⟨V, hV⟩ := Deep.choose_lt each
    refine ⟨(List.range l).map V, by simp, hl, fun i v hv => ?_, (fun e => nomatch e)⟩
    obtain ⟨g, e⟩ := List.getElem?_eq_some_iff.1 hv
    have hj : i < l := by simpa using g
    have ev : V i = v := by simpa using e
    obtain ⟨r0, r1⟩ := hV i hj
    have hz := (hV 0 (by omega)).1
    rw [Nat.zero_mul] at hz
    have hz' : W.cell? x = some (.int .i64 (V 0).1) := hz
    obtain ⟨hs, hb⟩ := Mm.spot_none hz'
    rw [ev] at r0 r1
    rw [hs, Mm.addPlain] at r0 r1
    exact ⟨x.block, x.off, by rw [← hs], hb, r0, r1⟩

set_option maxRecDepth 100000 in
theorem open_nums {H : Type} {enc : TypeId × Value → H} {W : World} {a : Option Addr} {l c : Nat} {d : DataW H} {p : List MemPlace} (h : DataW.Trod enc Try.prog W 0 (fun _ => true) true 28 (.slice a l c) d p) :
    ∃ xs : List Int, Mm.Nms W a l c xs := by
  obtain ⟨fuel, hf⟩ := h
  rcases open_ints Try.underlying28 Try.underlying3 Mm.cellsInt hf with ⟨hcs, _⟩ | ⟨x, l', c', zs, hcs, _, hl, _, hz, _, hx, _⟩
  · simp [Value.cells] at hcs
    obtain ⟨rfl, rfl, rfl⟩ := hcs
    exact ⟨[], rfl, Nat.le_refl _, fun i x hx => by simp at hx⟩
  · simp [Value.cells] at hcs
    obtain ⟨rfl, rfl, rfl⟩ := hcs
    rw [if_pos rfl] at hz
    refine ⟨(List.range l).map (fun i => zs.getD i 0), by simp, hl, fun i v hv => ?_⟩
    obtain ⟨g, e⟩ := List.getElem?_eq_some_iff.1 hv
    have hj : i < l := by simpa using g
    have ev : zs.getD i 0 = v := by simpa using e
    have hz' : W.cell? x = some (.int .i64 (zs.getD 0 0)) := hx 0 (by omega)
    obtain ⟨hs, hb⟩ := Mm.spot_none hz'
    have h1 := hx i (by omega)
    rw [hs, Mm.addPlain, ev] at h1
    exact ⟨x.block, x.off, by rw [← hs], hb, h1⟩
end Go.Proofs.Ythikdfcndppoaaa
