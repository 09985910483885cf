/- Steps that came in, read as plain data. -/
import Derived.Test.YtjnaafgiokdcbaaLc0
import Derived.Lib.SmallJoins
import Derived.Deep.Slices
import Derived.Deep.Strs
import Derived.ChangeSlices
import Derived.OpenShut
namespace Go.Proofs.Ytjnaafgiokdcbaa
open Go.ChangeShapes Go.WideShapes Go.ChangeAt Go.RowKit

theorem own : ownKnob Try.prog.godebug = none := by kernel_rfl
theorem laidOut : laidOutB Try.prog = true := by kernel_rfl
namespace Cg
theorem spot_none {w : World} {a : Addr} {v : Value} (h : w.cell? a = some v) : a = ⟨a.block, a.off, none⟩ ∧ a.block < w.heap.size := by
  have hb := World.block_lt_of_cell? w a h
  obtain ⟨b, o, s⟩ := a
  cases s with
  | none => exact ⟨rfl, hb⟩
  | some x =>
    unfold World.cell? at h
    split at h
    · simp at h
    · cases h
theorem u8_nat {z : Int} (h : (Lit.int .u8 z).wf = true) : ∃ v : Nat, z = (v : Int) ∧ v < 256 := by
  simp only [Lit.wf, IntKind.min, IntKind.max, IntKind.signed, IntKind.bits, Bool.and_eq_true] at h
  exact ⟨z.toNat, by simp at h; omega, by simp at h; omega⟩
theorem cellsInt : Try.prog.cellsOf 3 = 1 := by kernel_rfl
/-- A step. -/
structure Stp where
  kd : Int
  key : ByteArray
  to : ByteArray
/-- A row of steps that came in. -/
structure Stps (W : World) (a : Option Addr) (l c : Nat) (zs : List Stp) : Prop where
  len : zs.length = l
  le : l ≤ c
  big : l ≤ maxLen
  at_ : ∀ (i : Nat) x, zs[i]? = some x → ∃ b o, a = some ⟨b, o, none⟩ ∧ b < W.heap.size ∧ W.cell? ⟨b, o + i * 3, none⟩ = some (.int .i64 x.kd) ∧ W.cell? ⟨b, o + i * 3 + 1, none⟩ = some (.string x.key) ∧ W.cell? ⟨b, o + i * 3 + 2, none⟩ = some (.string x.to)
end Cg
theorem cellsStep : Try.prog.cellsOf 33 = 3 := by kernel_rfl
theorem cellsStr : Try.prog.cellsOf 9 = 1 := by kernel_rfl
set_option maxRecDepth 100000 in
theorem open_three {H : Type} {enc : TypeId × Value → H} {W : World} {n : Nat} {cs : List Value} {y : DataW H × List MemPlace} (h : DataW.trod enc Try.prog W 0 (fun _ => true) true n 33 cs = some y) :
    ∃ x : Cg.Stp, cs = [.int .i64 x.kd, .string x.key, .string x.to] := by
  obtain ⟨y0, y1, y2, m, _, hl, h0, h1, h2⟩ := Deep.trod_struct3 Try.underlying33 h
  dsimp only at h0 h1 h2
  rw [cellsStep] at hl
  rw [Cg.cellsInt] at h0
  rw [cellsStr] at h1 h2
  match cs, hl with
  | [c0, c1, c2], _ =>
    simp at h0 h1 h2
    obtain ⟨k, e0, _, _⟩ := DataW.trod_int Try.underlying3 h0
    obtain ⟨a, e1, _, _⟩ := DataW.trod_string Try.underlying9 h1
    obtain ⟨b, e2, _, _⟩ := DataW.trod_string Try.underlying9 h2
    simp at e0 e1 e2
    subst e0 e1 e2
    exact ⟨⟨k, a, b⟩, rfl⟩
set_option maxRecDepth 100000 in
theorem open_steps10 {H : Type} {enc : TypeId × Value → H} {W : World} {a : Option Addr} {l c : Nat} {d : DataW H} {p : List MemPlace} (h : DataW.Trod enc Try.prog W 0 (fun _ => true) true 22 (.slice a l c) d p) :
    ∃ zs : List Cg.Stp, Cg.Stps W a l c zs := by
  obtain ⟨fuel, hf⟩ := h
  rcases Deep.open_slice Try.underlying22 hf with ⟨hcs, _⟩ | ⟨x, l', c', m, n, D, Pl, hcs, _, hl, hm, hmm, _, hx⟩
  · simp [Value.cells] at hcs
    obtain ⟨rfl, rfl, rfl⟩ := hcs
    exact ⟨[], rfl, Nat.le_refl _, Nat.zero_le _, fun i x hx => by simp at hx⟩
  · simp [Value.cells] at hcs
    obtain ⟨rfl, rfl, rfl⟩ := hcs
    rw [if_pos rfl] at hmm
    subst hmm
    have each : ∀ i, i < l → ∃ v : Cg.Stp, W.cell? (x.add (i * 3)) = some (.int .i64 v.kd) ∧ W.cell? (x.add (i * 3 + 1)) = some (.string v.key) ∧ W.cell? (x.add (i * 3 + 2)) = some (.string v.to) := fun i hi => by
      obtain ⟨cs', h1, h2⟩ := hx i (by omega)
      rw [cellsStep] at h1
      obtain ⟨_, _, hc⟩ := World.cells?_some h1
      obtain ⟨v, rfl⟩ := open_three h2
      have e0 := hc 0 (by omega)
      have e1 := hc 1 (by omega)
      have e2 := hc 2 (by omega)
      rw [Deep.add_add] at e0 e1 e2
      exact ⟨v, e0, e1, e2⟩
    haveI : Inhabited Cg.Stp := ⟨⟨0, ⟨#[]⟩, ⟨#[]⟩⟩⟩
    obtain ⟨V, hV⟩ := Deep.choose_lt each
    refine ⟨(List.range l).map V, by simp, hl, Nat.le_trans hl hm, fun i v hv => ?_⟩
    obtain ⟨g, e⟩ := List.getElem?_eq_some_iff.1 hv
    have hj : i < l := by simpa using g
    have ev : V i = v := by simpa using e
    obtain ⟨r0, r1, r2⟩ := hV i hj
    have hz := (hV 0 (by omega)).1
    rw [Nat.zero_mul] at hz
    have hz' : W.cell? x = some (.int .i64 (V 0).kd) := hz
    obtain ⟨hs, hb⟩ := Cg.spot_none hz'
    rw [ev] at r0 r1 r2
    rw [hs, Mm.addPlain] at r0 r1 r2
    exact ⟨x.block, x.off, by rw [← hs], hb, r0, r1, r2⟩

theorem open_step10 {H : Type} {enc : TypeId × Value → H} {W : World} {base : Nat} {v : Value} {d : DataW H} {p : List MemPlace} (hv : Value.okWide Try.prog W .any base 33 v) (h : DataW.Trod enc Try.prog W 0 (fun _ => true) true 33 v d p) :
    ∃ x : Cg.Stp, v = .agg #[.int .i64 x.kd, .string x.key, .string x.to] := by
  obtain ⟨cs, rfl, _⟩ := okWide_struct Try.underlying33 hv
  obtain ⟨fuel, hf⟩ := h
  obtain ⟨x, hx⟩ := open_three hf
  refine ⟨x, ?_⟩
  have : cs.toList = [.int .i64 x.kd, .string x.key, .string x.to] := by simpa [Value.cells] using hx
  rw [show cs = cs.toList.toArray from by simp, this]
end Go.Proofs.Ytjnaafgiokdcbaa
