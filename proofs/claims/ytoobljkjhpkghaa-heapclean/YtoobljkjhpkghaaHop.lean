/- Bytes that came in, read as plain data. -/
import Derived.Test.YtoobljkjhpkghaaCa1
import Derived.Lib.SmallJoins
import Derived.Deep.Slices
import Derived.Deep.Strs
import Derived.ChangeSlices
import Derived.OpenShut
namespace Go.Proofs.Ytoobljkjhpkghaa
open Go.ChangeShapes Go.WideShapes Go.ChangeAt Go.RowKit

theorem own : ownKnob Try.prog.godebug = none := by kernel_rfl
theorem laidOut : laidOutB Try.prog = true := by kernel_rfl
namespace Cg
theorem spot_none {w : World} {a : Addr} {v : Value} (h : w.cell? a = some v) : a = ⟨a.block, a.off, none⟩ ∧ a.block < w.heap.size := by
  have hb := World.block_lt_of_cell? w a h
  obtain ⟨b, o, s⟩ := a
  cases s with
  | none => exact ⟨rfl, hb⟩
  | some x =>
    unfold World.cell? at h
    split at h
    · simp at h
    · cases h
theorem u8_nat {z : Int} (h : (Lit.int .u8 z).wf = true) : ∃ v : Nat, z = (v : Int) ∧ v < 256 := by
  simp only [Lit.wf, IntKind.min, IntKind.max, IntKind.signed, IntKind.bits, Bool.and_eq_true] at h
  exact ⟨z.toNat, by simp at h; omega, by simp at h; omega⟩
theorem cellsInt : Try.prog.cellsOf 3 = 1 := by kernel_rfl
/-- Bytes that came in. -/
structure U8s (W : World) (a : Option Addr) (l c : Nat) (xs : List Nat) : Prop where
  len : xs.length = l
  le : l ≤ c
  at_ : ∀ (i : Nat) x, xs[i]? = some x → x < 256 ∧ ∃ b o, a = some ⟨b, o, none⟩ ∧ b < W.heap.size ∧ W.cell? ⟨b, o + i, none⟩ = some (.int .u8 (x : Int))
end Cg

set_option maxRecDepth 100000 in
theorem open_u8s {H : Type} {enc : TypeId × Value → H} {W : World} {a : Option Addr} {l c : Nat} {d : DataW H} {p : List MemPlace} (h : DataW.Trod enc Try.prog W 0 (fun _ => true) true 85 (.slice a l c) d p) :
    ∃ xs : List Nat, Cg.U8s W a l c xs := by
  obtain ⟨fuel, hf⟩ := h
  rcases Deep.open_slice Try.underlying85 hf with ⟨hcs, _⟩ | ⟨x, l', c', m, n, D, Pl, hcs, _, hl, hm, hmm, _, hx⟩
  · simp [Value.cells] at hcs
    obtain ⟨rfl, rfl, rfl⟩ := hcs
    exact ⟨[], rfl, Nat.le_refl _, fun i x hx => by simp at hx⟩
  · simp [Value.cells] at hcs
    obtain ⟨rfl, rfl, rfl⟩ := hcs
    rw [if_pos rfl] at hmm
    subst hmm
    have k1 : Try.prog.cellsOf 5 = 1 := by kernel_rfl
    have each : ∀ i, i < l → ∃ v : Nat, v < 256 ∧ W.cell? (x.add i) = some (.int .u8 (v : Int)) := fun i hi => by
      obtain ⟨cs', h1, h2⟩ := hx i (by omega)
      rw [k1] at h1
      obtain ⟨hl1, _, hc⟩ := World.cells?_some h1
      match cs', hl1 with
      | [c0], _ =>
        obtain ⟨z, e0, _, wz⟩ := DataW.trod_int Try.underlying5 h2
        simp at e0
        subst e0
        obtain ⟨v, rfl, hv⟩ := Cg.u8_nat wz
        have e := hc 0 (by omega)
        rw [Deep.add_add, Nat.mul_one, Nat.add_zero] at e
        exact ⟨v, hv, e⟩
    obtain ⟨V, hV⟩ := Deep.choose_lt each
    refine ⟨(List.range l).map V, by simp, hl, fun i v hv => ?_⟩
    obtain ⟨g, e⟩ := List.getElem?_eq_some_iff.1 hv
    have hj : i < l := by simpa using g
    have ev : V i = v := by simpa using e
    obtain ⟨r0, r1⟩ := hV i hj
    have hz' : W.cell? x = some (.int .u8 ((V 0 : Nat) : Int)) := (hV 0 (by omega)).2
    obtain ⟨hs, hb⟩ := Cg.spot_none hz'
    rw [ev] at r0 r1
    rw [hs, Mm.addPlain] at r1
    exact ⟨r0, x.block, x.off, by rw [← hs], hb, r1⟩
end Go.Proofs.Ytoobljkjhpkghaa
