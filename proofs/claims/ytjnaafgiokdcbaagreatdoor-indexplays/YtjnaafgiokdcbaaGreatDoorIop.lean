/- Steps and numbers that came in, read as plain data. -/
import Derived.Test.YtjnaafgiokdcbaaGreatDoorHM
import Derived.Test.YtjnaafgiokdcbaaGreatDoorI0
import Derived.Deep.Slices
import Derived.Deep.Strs
import Derived.ChangeSlices
namespace Go.Proofs.YtjnaafgiokdcbaaGreatDoor
open Go.ChangeShapes Go.WideShapes Go.ChangeAt Go.RowKit

theorem Vl.spot_none {w : World} {a : Addr} {v : Value} (h : w.cell? a = some v) : a = ⟨a.block, a.off, none⟩ ∧ a.block < w.heap.size := by
  have hb := World.block_lt_of_cell? w a h
  obtain ⟨b, o, s⟩ := a
  cases s with
  | none => exact ⟨rfl, hb⟩
  | some x =>
    unfold World.cell? at h
    split at h
    · simp at h
    · cases h

/-- The cells of one value that came in. -/
theorem Vl.open_four {H : Type} {enc : TypeId × Value → H} {W : World} {n : Nat} {cs : List Value} {y : DataW H × List MemPlace} (h : DataW.trod enc Tryz.prog W 0 (fun _ => true) true n 34 cs = some y) :
    ∃ v : Vl.V, cs = [.int .i64 v.k, .int .i64 v.n, .float .f64 v.f, .string v.s] ∧ v.Fit := by
  obtain ⟨y0, y1, y2, y3, m, _, hl, h0, h1, h2, h3⟩ := Joins.trod_struct4 Tryz.underlying34 h
  have k3 : Tryz.prog.cellsOf 3 = 1 := by kernel_rfl
  have k2 : Tryz.prog.cellsOf 2 = 1 := by kernel_rfl
  have k22 : Tryz.prog.cellsOf 32 = 1 := by kernel_rfl
  have k9 : Tryz.prog.cellsOf 9 = 1 := by kernel_rfl
  dsimp only at h0 h1 h2 h3
  rw [cells24] at hl
  rw [k3] at h0
  rw [k2] at h1
  rw [k22] at h2
  rw [k9] at h3
  match cs, hl with
  | [c0, c1, c2, c3], _ =>
    obtain ⟨k, e0, _, wk⟩ := DataW.trod_int Tryz.underlying3 h0
    obtain ⟨n, e1, _, wn⟩ := DataW.trod_int Tryz.underlying2 h1
    obtain ⟨f, e2, wf⟩ := Vl.trod_float (v := c2) Tryz.underlying32 h2
    obtain ⟨s, e3, _, ws⟩ := DataW.trod_string Tryz.underlying9 h3
    simp at e0 e1 e3
    subst e0 e1 e2 e3
    exact ⟨⟨k, n, f, s⟩, rfl, (Vl.wf64 wk).1, (Vl.wf64 wk).2, (Vl.wf64 wn).1, (Vl.wf64 wn).2, wf, ws⟩

namespace Ix
open Vl
/-- A step. -/
structure Stp where
  kd : Int
  tid : Int
  v : V
  x : V
/-- A row of steps that came in. -/
structure Stps (W : World) (a : Option Addr) (l c : Nat) (zs : List Stp) : Prop where
  len : zs.length = l
  le : l ≤ c
  big : l ≤ maxLen
  fit : ∀ (i : Nat) x, zs[i]? = some x → x.v.Fit ∧ x.x.Fit
  at_ : ∀ (i : Nat) x, zs[i]? = some x → ∃ b o, a = some ⟨b, o, none⟩ ∧ b < W.heap.size ∧ W.cell? ⟨b, o + i * 10, none⟩ = some (.int .i64 x.kd) ∧ W.cell? ⟨b, o + i * 10 + 1, none⟩ = some (.int .i64 x.tid) ∧ W.cell? ⟨b, o + i * 10 + 2, none⟩ = some (.int .i64 x.v.k) ∧ W.cell? ⟨b, o + i * 10 + 3, none⟩ = some (.int .i64 x.v.n) ∧ W.cell? ⟨b, o + i * 10 + 4, none⟩ = some (.float .f64 x.v.f) ∧ W.cell? ⟨b, o + i * 10 + 5, none⟩ = some (.string x.v.s) ∧ W.cell? ⟨b, o + i * 10 + 6, none⟩ = some (.int .i64 x.x.k) ∧ W.cell? ⟨b, o + i * 10 + 7, none⟩ = some (.int .i64 x.x.n) ∧ W.cell? ⟨b, o + i * 10 + 8, none⟩ = some (.float .f64 x.x.f) ∧ W.cell? ⟨b, o + i * 10 + 9, none⟩ = some (.string x.x.s)
end Ix
theorem cellsStep11 : Tryz.prog.cellsOf 36 = 10 := by kernel_rfl
set_option maxRecDepth 100000 in
theorem open_ten {H : Type} {enc : TypeId × Value → H} {W : World} {n : Nat} {cs : List Value} {y : DataW H × List MemPlace} (h : DataW.trod enc Tryz.prog W 0 (fun _ => true) true n 36 cs = some y) :
    ∃ x : Ix.Stp, cs = [.int .i64 x.kd, .int .i64 x.tid, .int .i64 x.v.k, .int .i64 x.v.n, .float .f64 x.v.f, .string x.v.s, .int .i64 x.x.k, .int .i64 x.x.n, .float .f64 x.x.f, .string x.x.s] ∧ x.v.Fit ∧ x.x.Fit := by
  obtain ⟨y0, y1, y2, y3, m, _, hl, h0, h1, h2, h3⟩ := Joins.trod_struct4 Tryz.underlying36 h
  have k3 : Tryz.prog.cellsOf 3 = 1 := by kernel_rfl
  dsimp only at h0 h1 h2 h3
  rw [cellsStep11] at hl
  rw [k3] at h0 h1
  rw [cells24] at h2 h3
  match cs, hl with
  | [c0, c1, c2, c3, c4, c5, c6, c7, c8, c9], _ =>
    obtain ⟨k, e0, _, _⟩ := DataW.trod_int Tryz.underlying3 h0
    obtain ⟨t, e1, _, _⟩ := DataW.trod_int Tryz.underlying3 h1
    obtain ⟨v, e2, f2⟩ := Vl.open_four h2
    obtain ⟨x, e3, f3⟩ := Vl.open_four h3
    simp at e0 e1 e2 e3
    obtain ⟨rfl, rfl, rfl, rfl⟩ := e2
    obtain ⟨rfl, rfl, rfl, rfl⟩ := e3
    subst e0 e1
    exact ⟨⟨k, t, v, x⟩, rfl, f2, f3⟩
set_option maxRecDepth 100000 in
theorem open_steps11 {H : Type} {enc : TypeId × Value → H} {W : World} {a : Option Addr} {l c : Nat} {d : DataW H} {p : List MemPlace} (h : DataW.Trod enc Tryz.prog W 0 (fun _ => true) true 22 (.slice a l c) d p) :
    ∃ zs : List Ix.Stp, Ix.Stps W a l c zs := by
  obtain ⟨fuel, hf⟩ := h
  rcases Deep.open_slice Tryz.underlying22 hf with ⟨hcs, _⟩ | ⟨x, l', c', m, n, D, Pl, hcs, _, hl, hm, hmm, _, hx⟩
  · simp [Value.cells] at hcs
    obtain ⟨rfl, rfl, rfl⟩ := hcs
    exact ⟨[], rfl, Nat.le_refl _, Nat.zero_le _, (fun i x hx => by simp at hx), fun i x hx => by simp at hx⟩
  · simp [Value.cells] at hcs
    obtain ⟨rfl, rfl, rfl⟩ := hcs
    rw [if_pos rfl] at hmm
    subst hmm
    have each : ∀ i, i < l → ∃ v : Ix.Stp, (v.v.Fit ∧ v.x.Fit) ∧ W.cell? (x.add (i * 10)) = some (.int .i64 v.kd) ∧ W.cell? (x.add (i * 10 + 1)) = some (.int .i64 v.tid) ∧ W.cell? (x.add (i * 10 + 2)) = some (.int .i64 v.v.k) ∧ W.cell? (x.add (i * 10 + 3)) = some (.int .i64 v.v.n) ∧ W.cell? (x.add (i * 10 + 4)) = some (.float .f64 v.v.f) ∧ W.cell? (x.add (i * 10 + 5)) = some (.string v.v.s) ∧ W.cell? (x.add (i * 10 + 6)) = some (.int .i64 v.x.k) ∧ W.cell? (x.add (i * 10 + 7)) = some (.int .i64 v.x.n) ∧ W.cell? (x.add (i * 10 + 8)) = some (.float .f64 v.x.f) ∧ W.cell? (x.add (i * 10 + 9)) = some (.string v.x.s) := fun i hi => by
      obtain ⟨cs', h1, h2⟩ := hx i (by omega)
      rw [cellsStep11] at h1
      obtain ⟨_, _, hc⟩ := World.cells?_some h1
      obtain ⟨v, rfl, hf⟩ := open_ten h2
      have e0 := hc 0 (by omega)
      have e1 := hc 1 (by omega)
      have e2 := hc 2 (by omega)
      have e3 := hc 3 (by omega)
      have e4 := hc 4 (by omega)
      have e5 := hc 5 (by omega)
      have e6 := hc 6 (by omega)
      have e7 := hc 7 (by omega)
      have e8 := hc 8 (by omega)
      have e9 := hc 9 (by omega)
      rw [Deep.add_add] at e0 e1 e2 e3 e4 e5 e6 e7 e8 e9
      exact ⟨v, hf, e0, e1, e2, e3, e4, e5, e6, e7, e8, e9⟩
    haveI : Inhabited Ix.Stp := ⟨⟨0, 0, ⟨0, 0, 0, ⟨#[]⟩⟩, ⟨0, 0, 0, ⟨#[]⟩⟩⟩⟩
    obtain ⟨V, hV⟩ := Deep.choose_lt each
    have hget : ∀ (i : Nat) (v : Ix.Stp), ((List.range l).map V)[i]? = some v → i < l ∧ V i = v := fun i v hv => by
      obtain ⟨g, e⟩ := List.getElem?_eq_some_iff.1 hv
      exact ⟨by simpa using g, by simpa using e⟩
    refine ⟨(List.range l).map V, by simp, hl, Nat.le_trans hl hm, fun i v hv => ?_, fun i v hv => ?_⟩
    · obtain ⟨hj, ev⟩ := hget i v hv
      rw [← ev]; exact (hV i hj).1
    · obtain ⟨hj, ev⟩ := hget i v hv
      obtain ⟨_, r0, r1, r2, r3, r4, r5, r6, r7, r8, r9⟩ := hV i hj
      have hz := (hV 0 (by omega)).2.1
      rw [Nat.zero_mul] at hz
      have hz' : W.cell? x = some (.int .i64 (V 0).kd) := hz
      obtain ⟨hs, hb⟩ := Vl.spot_none hz'
      rw [ev] at r0 r1 r2 r3 r4 r5 r6 r7 r8 r9
      rw [hs, Mm.addPlain] at r0 r1 r2 r3 r4 r5 r6 r7 r8 r9
      exact ⟨x.block, x.off, by rw [← hs], hb, r0, r1, r2, r3, r4, r5, r6, r7, r8, r9⟩

end Go.Proofs.YtjnaafgiokdcbaaGreatDoor
