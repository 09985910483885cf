/- Steps, rows of steps and of bytes, pairs that came in, read as plain data. -/
import Derived.Test.YtdbbamjijhaeoaaCa7
import Derived.Lib.SmallJoins
import Derived.Deep.Slices
import Derived.Deep.Strs
import Derived.ChangeSlices
import Derived.OpenShut
namespace Go.Proofs.Ytdbbamjijhaeoaa
open Go.ChangeShapes Go.WideShapes Go.ChangeAt Go.RowKit

theorem own : ownKnob Try.prog.godebug = none := by kernel_rfl
theorem laidOut : laidOutB Try.prog = true := by kernel_rfl
namespace Cg
/-- A step. -/
structure Stp where
  kd : Int
  xid : Int
  rd : Bool
theorem spot_none {w : World} {a : Addr} {v : Value} (h : w.cell? a = some v) : a = ⟨a.block, a.off, none⟩ ∧ a.block < w.heap.size := by
  have hb := World.block_lt_of_cell? w a h
  obtain ⟨b, o, s⟩ := a
  cases s with
  | none => exact ⟨rfl, hb⟩
  | some x =>
    unfold World.cell? at h
    split at h
    · simp at h
    · cases h
theorem u8_nat {z : Int} (h : (Lit.int .u8 z).wf = true) : ∃ v : Nat, z = (v : Int) ∧ v < 256 := by
  simp only [Lit.wf, IntKind.min, IntKind.max, IntKind.signed, IntKind.bits, Bool.and_eq_true] at h
  exact ⟨z.toNat, by simp at h; omega, by simp at h; omega⟩
theorem cellsStep : Try.prog.cellsOf 33 = 3 := by kernel_rfl
theorem cellsPair : Try.prog.cellsOf 23 = 2 := by kernel_rfl
theorem cellsInt : Try.prog.cellsOf 3 = 1 := by kernel_rfl
set_option maxRecDepth 100000 in
theorem open_three {H : Type} {enc : TypeId × Value → H} {W : World} {n : Nat} {cs : List Value} {y : DataW H × List MemPlace} (h : DataW.trod enc Try.prog W 0 (fun _ => true) true n 33 cs = some y) :
    ∃ v : Stp, cs = [.int .i64 v.kd, .int .i64 v.xid, .bool v.rd] := by
  obtain ⟨y0, y1, y2, m, _, hl, h0, h1, h2⟩ := Deep.trod_struct3 Try.underlying33 h
  have k4 : Try.prog.cellsOf 4 = 1 := by kernel_rfl
  dsimp only at h0 h1 h2
  rw [cellsStep] at hl
  rw [cellsInt] at h0 h1
  rw [k4] at h2
  match cs, hl with
  | [c0, c1, c2], _ =>
    obtain ⟨k, e0, _, _⟩ := DataW.trod_int Try.underlying3 h0
    obtain ⟨n, e1, _, _⟩ := DataW.trod_int Try.underlying3 h1
    obtain ⟨b, e2, _⟩ := DataW.trod_bool Try.underlying4 h2
    simp at e0 e1 e2
    subst e0 e1 e2
    exact ⟨⟨k, n, b⟩, rfl⟩
set_option maxRecDepth 100000 in
theorem open_two {H : Type} {enc : TypeId × Value → H} {W : World} {n : Nat} {cs : List Value} {y : DataW H × List MemPlace} (h : DataW.trod enc Try.prog W 0 (fun _ => true) true n 23 cs = some y) :
    ∃ a b : Int, cs = [.int .i64 a, .int .i64 b] := by
  obtain ⟨xs, m, _, _, hl, hxl, hel⟩ := DataW.trod_array Try.underlying23 h
  rw [cellsPair] at hl
  have h0 := hel 0 (by omega)
  have h1 := hel 1 (by omega)
  rw [cellsInt, List.getElem?_eq_getElem (by omega)] at h0 h1
  match cs, hl with
  | [c0, c1], _ =>
    obtain ⟨k, e0, _, _⟩ := DataW.trod_int Try.underlying3 h0
    obtain ⟨n, e1, _, _⟩ := DataW.trod_int Try.underlying3 h1
    simp at e0 e1
    subst e0 e1
    exact ⟨k, n, rfl⟩
/-- A row of steps that came in. -/
structure Stps (W : World) (a : Option Addr) (l c : Nat) (xs : List Stp) : Prop where
  len : xs.length = l
  le : l ≤ c
  at_ : ∀ (i : Nat) x, xs[i]? = some x → ∃ b o, a = some ⟨b, o, none⟩ ∧ b < W.heap.size ∧ W.cell? ⟨b, o + i * 3, none⟩ = some (.int .i64 x.kd) ∧ W.cell? ⟨b, o + i * 3 + 1, none⟩ = some (.int .i64 x.xid) ∧ W.cell? ⟨b, o + i * 3 + 2, none⟩ = some (.bool x.rd)
/-- Bytes that came in. -/
structure U8s (W : World) (a : Option Addr) (l c : Nat) (xs : List Nat) : Prop where
  len : xs.length = l
  le : l ≤ c
  at_ : ∀ (i : Nat) x, xs[i]? = some x → x < 256 ∧ ∃ b o, a = some ⟨b, o, none⟩ ∧ b < W.heap.size ∧ W.cell? ⟨b, o + i, none⟩ = some (.int .u8 (x : Int))
end Cg

set_option maxRecDepth 100000 in
theorem open_step {H : Type} {enc : TypeId × Value → H} {W : World} {base : Nat} {v : Value} {d : DataW H} {p : List MemPlace} (hv : Value.okWide Try.prog W .any base 33 v) (h : DataW.Trod enc Try.prog W 0 (fun _ => true) true 33 v d p) :
    ∃ x : Cg.Stp, v = .agg #[.int .i64 x.kd, .int .i64 x.xid, .bool x.rd] := by
  obtain ⟨cs, rfl, _⟩ := okWide_struct Try.underlying33 hv
  obtain ⟨fuel, hf⟩ := h
  obtain ⟨x, hx⟩ := Cg.open_three hf
  refine ⟨x, ?_⟩
  have : cs.toList = [.int .i64 x.kd, .int .i64 x.xid, .bool x.rd] := by simpa [Value.cells] using hx
  rw [show cs = cs.toList.toArray from by simp, this]

set_option maxRecDepth 100000 in
theorem open_pair {H : Type} {enc : TypeId × Value → H} {W : World} {base : Nat} {v : Value} {d : DataW H} {p : List MemPlace} (hv : Value.okWide Try.prog W .any base 23 v) (h : DataW.Trod enc Try.prog W 0 (fun _ => true) true 23 v d p) :
    ∃ x y : Int, v = .agg #[.int .i64 x, .int .i64 y] := by
  have hv' : ∃ cs, v = .agg cs := by
    simp only [Value.okWide, Try.underlying23] at hv
    obtain ⟨cs, h1, _⟩ := hv
    exact ⟨cs, h1⟩
  obtain ⟨cs, rfl⟩ := hv'
  obtain ⟨fuel, hf⟩ := h
  obtain ⟨x, y, hx⟩ := Cg.open_two hf
  refine ⟨x, y, ?_⟩
  have : cs.toList = [.int .i64 x, .int .i64 y] := by simpa [Value.cells] using hx
  rw [show cs = cs.toList.toArray from by simp, this]

set_option maxRecDepth 100000 in
theorem open_steps {H : Type} {enc : TypeId × Value → H} {W : World} {a : Option Addr} {l c : Nat} {d : DataW H} {p : List MemPlace} (h : DataW.Trod enc Try.prog W 0 (fun _ => true) true 22 (.slice a l c) d p) :
    ∃ xs : List Cg.Stp, Cg.Stps W a l c xs := by
  obtain ⟨fuel, hf⟩ := h
  rcases Deep.open_slice Try.underlying22 hf with ⟨hcs, _⟩ | ⟨x, l', c', m, n, D, Pl, hcs, _, hl, hm, hmm, _, hx⟩
  · simp [Value.cells] at hcs
    obtain ⟨rfl, rfl, rfl⟩ := hcs
    exact ⟨[], rfl, Nat.le_refl _, fun i x hx => by simp at hx⟩
  · simp [Value.cells] at hcs
    obtain ⟨rfl, rfl, rfl⟩ := hcs
    rw [if_pos rfl] at hmm
    subst hmm
    have each : ∀ i, i < l → ∃ v : Cg.Stp, W.cell? (x.add (i * 3)) = some (.int .i64 v.kd) ∧ W.cell? (x.add (i * 3 + 1)) = some (.int .i64 v.xid) ∧ W.cell? (x.add (i * 3 + 2)) = some (.bool v.rd) := fun i hi => by
      obtain ⟨cs', h1, h2⟩ := hx i (by omega)
      rw [Cg.cellsStep] at h1
      obtain ⟨_, _, hc⟩ := World.cells?_some h1
      obtain ⟨v, rfl⟩ := Cg.open_three h2
      have e0 := hc 0 (by omega)
      have e1 := hc 1 (by omega)
      have e2 := hc 2 (by omega)
      rw [Deep.add_add] at e0 e1 e2
      exact ⟨v, e0, e1, e2⟩
    haveI : Inhabited Cg.Stp := ⟨⟨0, 0, false⟩⟩
    obtain ⟨V, hV⟩ := Deep.choose_lt each
    refine ⟨(List.range l).map V, by simp, hl, fun i v hv => ?_⟩
    obtain ⟨g, e⟩ := List.getElem?_eq_some_iff.1 hv
    have hj : i < l := by simpa using g
    have ev : V i = v := by simpa using e
    obtain ⟨r0, r1, r2⟩ := hV i hj
    have hz := (hV 0 (by omega)).1
    rw [Nat.zero_mul] at hz
    have hz' : W.cell? x = some (.int .i64 (V 0).kd) := hz
    obtain ⟨hs, hb⟩ := Cg.spot_none hz'
    rw [ev] at r0 r1 r2
    rw [hs, Mm.addPlain] at r0 r1 r2
    exact ⟨x.block, x.off, by rw [← hs], hb, r0, r1, r2⟩

set_option maxRecDepth 100000 in
theorem open_u8s {H : Type} {enc : TypeId × Value → H} {W : World} {a : Option Addr} {l c : Nat} {d : DataW H} {p : List MemPlace} (h : DataW.Trod enc Try.prog W 0 (fun _ => true) true 50 (.slice a l c) d p) :
    ∃ xs : List Nat, Cg.U8s W a l c xs := by
  obtain ⟨fuel, hf⟩ := h
  rcases Deep.open_slice Try.underlying50 hf with ⟨hcs, _⟩ | ⟨x, l', c', m, n, D, Pl, hcs, _, hl, hm, hmm, _, hx⟩
  · simp [Value.cells] at hcs
    obtain ⟨rfl, rfl, rfl⟩ := hcs
    exact ⟨[], rfl, Nat.le_refl _, fun i x hx => by simp at hx⟩
  · simp [Value.cells] at hcs
    obtain ⟨rfl, rfl, rfl⟩ := hcs
    rw [if_pos rfl] at hmm
    subst hmm
    have k1 : Try.prog.cellsOf 5 = 1 := by kernel_rfl
    have each : ∀ i, i < l → ∃ v : Nat, v < 256 ∧ W.cell? (x.add i) = some (.int .u8 (v : Int)) := fun i hi => by
      obtain ⟨cs', h1, h2⟩ := hx i (by omega)
      rw [k1] at h1
      obtain ⟨hl1, _, hc⟩ := World.cells?_some h1
      match cs', hl1 with
      | [c0], _ =>
        obtain ⟨z, e0, _, wz⟩ := DataW.trod_int Try.underlying5 h2
        simp at e0
        subst e0
        obtain ⟨v, rfl, hv⟩ := Cg.u8_nat wz
        have e := hc 0 (by omega)
        rw [Deep.add_add, Nat.mul_one, Nat.add_zero] at e
        exact ⟨v, hv, e⟩
    obtain ⟨V, hV⟩ := Deep.choose_lt each
    refine ⟨(List.range l).map V, by simp, hl, fun i v hv => ?_⟩
    obtain ⟨g, e⟩ := List.getElem?_eq_some_iff.1 hv
    have hj : i < l := by simpa using g
    have ev : V i = v := by simpa using e
    obtain ⟨r0, r1⟩ := hV i hj
    have hz' : W.cell? x = some (.int .u8 ((V 0 : Nat) : Int)) := (hV 0 (by omega)).2
    obtain ⟨hs, hb⟩ := Cg.spot_none hz'
    rw [ev] at r0 r1
    rw [hs, Mm.addPlain] at r1
    exact ⟨r0, x.block, x.off, by rw [← hs], hb, r1⟩
end Go.Proofs.Ytdbbamjijhaeoaa
