/- Steps, rows of steps and of bytes that came in, read as plain data. -/
import Derived.Test.YthaenobciefjiaaDoorA2
import Derived.Test.YthaenobciefjiaaDoorMLaid
import Derived.Lib.SmallJoins
import Derived.Deep.Slices
import Derived.ChangeSlices
namespace Go.Proofs.YthaenobciefjiaaDoor
open Go.ChangeShapes Go.WideShapes Go.ChangeAt Go.RowKit

theorem laidOut : laidOutB Tryd.prog = true := by kernel_rfl
namespace Lk
/-- A step. -/
structure Stp where
  kd : Int
  ho : Int
  md : Int
  nm : Bytes
structure Stp.Fit (x : Stp) : Prop where
  kd : wfI x.kd
  ho : wfI x.ho
  md : wfI x.md
  nm : x.nm.length ≤ maxLen
theorem wf64 {n : Int} (h : (Lit.int .i64 n).wf = true) : wfI n := by
  simp only [Lit.wf, IntKind.min, IntKind.max, IntKind.signed, IntKind.bits, Bool.and_eq_true, decide_eq_true_eq, if_true] at h
  unfold wfI; omega
theorem ba (s : ByteArray) : (⟨s.data.toList.toArray⟩ : ByteArray) = s := by cases s; simp
theorem ba_len (s : ByteArray) : s.data.toList.length = s.size := Array.length_toList
theorem spot_none {w : World} {a : Addr} {v : Value} (h : w.cell? a = some v) : a = ⟨a.block, a.off, none⟩ ∧ a.block < w.heap.size := by
  have hb := World.block_lt_of_cell? w a h
  obtain ⟨b, o, s⟩ := a
  cases s with
  | none => exact ⟨rfl, hb⟩
  | some x =>
    unfold World.cell? at h
    split at h
    · simp at h
    · cases h
theorem add_plain (b o k : Nat) : (⟨b, o, none⟩ : Addr).add k = ⟨b, o + k, none⟩ := Addr.add_lit b o k
end Lk

theorem cellsStep : Tryd.prog.cellsOf 32 = 4 := by kernel_rfl
set_option maxRecDepth 100000 in
/-- The cells of one step that came in. -/
theorem Lk.open_four {H : Type} {enc : TypeId × Value → H} {W : World} {n : Nat} {cs : List Value} {y : DataW H × List MemPlace} (h : DataW.trod enc Tryd.prog W 0 (fun _ => true) true n 32 cs = some y) :
    ∃ v : Lk.Stp, cs = [.int .i64 v.kd, .int .i64 v.ho, .int .i64 v.md, Lk.str v.nm] ∧ v.Fit := by
  obtain ⟨y0, y1, y2, y3, m, _, hl, h0, h1, h2, h3⟩ := Joins.trod_struct4 Tryd.underlying32 h
  have k3 : Tryd.prog.cellsOf 3 = 1 := by kernel_rfl
  have k9 : Tryd.prog.cellsOf 9 = 1 := by kernel_rfl
  dsimp only at h0 h1 h2 h3
  rw [cellsStep] at hl
  rw [k3] at h0 h1 h2
  rw [k9] at h3
  match cs, hl with
  | [c0, c1, c2, c3], _ =>
    obtain ⟨k, e0, _, wk⟩ := DataW.trod_int Tryd.underlying3 h0
    obtain ⟨n, e1, _, wn⟩ := DataW.trod_int Tryd.underlying3 h1
    obtain ⟨f, e2, _, wf⟩ := DataW.trod_int Tryd.underlying3 h2
    obtain ⟨s, e3, _, ws⟩ := DataW.trod_string Tryd.underlying9 h3
    simp at e0 e1 e2 e3
    subst e0 e1 e2 e3
    exact ⟨⟨k, n, f, s.data.toList⟩, by simp only, Lk.wf64 wk, Lk.wf64 wn, Lk.wf64 wf, Nat.le_trans (Nat.le_of_eq (Lk.ba_len s)) ws⟩
set_option maxRecDepth 100000 in
theorem open_step {H : Type} {enc : TypeId × Value → H} {W : World} {base : Nat} {v : Value} {d : DataW H} {p : List MemPlace} (hv : Value.okWide Tryd.prog W .any base 32 v) (h : DataW.Trod enc Tryd.prog W 0 (fun _ => true) true 32 v d p) :
    ∃ x : Lk.Stp, v = .agg #[.int .i64 x.kd, .int .i64 x.ho, .int .i64 x.md, Lk.str x.nm] ∧ x.Fit := by
  obtain ⟨cs, rfl, _⟩ := okWide_struct Tryd.underlying32 hv
  obtain ⟨fuel, hf⟩ := h
  obtain ⟨x, hx, hfit⟩ := Lk.open_four hf
  refine ⟨x, ?_, hfit⟩
  have : cs.toList = [.int .i64 x.kd, .int .i64 x.ho, .int .i64 x.md, Lk.str x.nm] := by simpa [Value.cells] using hx
  rw [show cs = cs.toList.toArray from by simp, this]

/-- A row of steps that came in. -/
structure Lk.Stps (W : World) (a : Option Addr) (l c : Nat) (xs : List Lk.Stp) : Prop where
  len : xs.length = l
  le : l ≤ c
  cap : c ≤ maxLen
  at_ : ∀ (i : Nat) x, xs[i]? = some x → ∃ b o, a = some ⟨b, o, none⟩ ∧ b < W.heap.size ∧ W.cell? ⟨b, o + i * 4, none⟩ = some (.int .i64 x.kd) ∧ W.cell? ⟨b, o + i * 4 + 1, none⟩ = some (.int .i64 x.ho) ∧ W.cell? ⟨b, o + i * 4 + 2, none⟩ = some (.int .i64 x.md) ∧ W.cell? ⟨b, o + i * 4 + 3, none⟩ = some (Lk.str x.nm) ∧ x.Fit

set_option maxRecDepth 100000 in
theorem open_steps {H : Type} {enc : TypeId × Value → H} {W : World} {a : Option Addr} {l c : Nat} {d : DataW H} {p : List MemPlace} (h : DataW.Trod enc Tryd.prog W 0 (fun _ => true) true 22 (.slice a l c) d p) :
    ∃ xs : List Lk.Stp, Lk.Stps W a l c xs := by
  obtain ⟨fuel, hf⟩ := h
  rcases Deep.open_slice Tryd.underlying22 hf with ⟨hcs, _⟩ | ⟨x, l', c', m, n, D, Pl, hcs, _, hl, hm, hmm, _, hx⟩
  · simp [Value.cells] at hcs
    obtain ⟨rfl, rfl, rfl⟩ := hcs
    exact ⟨[], rfl, Nat.le_refl _, Nat.zero_le _, fun i x hx => by simp at hx⟩
  · simp [Value.cells] at hcs
    obtain ⟨rfl, rfl, rfl⟩ := hcs
    rw [if_pos rfl] at hmm
    subst hmm
    have each : ∀ i, i < l → ∃ v : Lk.Stp, W.cell? (x.add (i * 4)) = some (.int .i64 v.kd) ∧ W.cell? (x.add (i * 4 + 1)) = some (.int .i64 v.ho) ∧ W.cell? (x.add (i * 4 + 2)) = some (.int .i64 v.md) ∧ W.cell? (x.add (i * 4 + 3)) = some (Lk.str v.nm) ∧ v.Fit := fun i hi => by
      obtain ⟨cs', h1, h2⟩ := hx i (by omega)
      rw [cellsStep] at h1
      obtain ⟨_, _, hc⟩ := World.cells?_some h1
      obtain ⟨v, rfl, hfit⟩ := Lk.open_four h2
      have e0 := hc 0 (by omega)
      have e1 := hc 1 (by omega)
      have e2 := hc 2 (by omega)
      have e3 := hc 3 (by omega)
      rw [Deep.add_add] at e0 e1 e2 e3
      exact ⟨v, e0, e1, e2, e3, hfit⟩
    haveI : Inhabited Lk.Stp := ⟨⟨0, 0, 0, []⟩⟩
    obtain ⟨V, hV⟩ := Deep.choose_lt each
    refine ⟨(List.range l).map V, by simp, hl, hm, fun i v hv => ?_⟩
    obtain ⟨g, e⟩ := List.getElem?_eq_some_iff.1 hv
    have hj : i < l := by simpa using g
    have ev : V i = v := by simpa using e
    obtain ⟨r0, r1, r2, r3, r4⟩ := hV i hj
    have hz := (hV 0 (by omega)).1
    rw [Nat.zero_mul] at hz
    have hz' : W.cell? x = some (.int .i64 (V 0).kd) := hz
    obtain ⟨hs, hb⟩ := Lk.spot_none hz'
    rw [ev] at r0 r1 r2 r3 r4
    rw [hs, Lk.add_plain] at r0 r1 r2 r3
    exact ⟨x.block, x.off, by rw [← hs], hb, r0, r1, r2, r3, r4⟩

/-- Bytes that came in. -/
structure Lk.U8s (W : World) (a : Option Addr) (l c : Nat) (xs : List Nat) : Prop where
  len : xs.length = l
  le : l ≤ c
  cap : c ≤ maxLen
  at_ : ∀ (i : Nat) x, xs[i]? = some x → x < 256 ∧ ∃ b o, a = some ⟨b, o, none⟩ ∧ b < W.heap.size ∧ W.cell? ⟨b, o + i, none⟩ = some (.int .u8 (x : Int))

set_option maxRecDepth 100000 in
theorem open_u8s {H : Type} {enc : TypeId × Value → H} {W : World} {a : Option Addr} {l c : Nat} {d : DataW H} {p : List MemPlace} (h : DataW.Trod enc Tryd.prog W 0 (fun _ => true) true 50 (.slice a l c) d p) :
    ∃ xs : List Nat, Lk.U8s W a l c xs := by
  obtain ⟨fuel, hf⟩ := h
  rcases Deep.open_slice Tryd.underlying50 hf with ⟨hcs, _⟩ | ⟨x, l', c', m, n, D, Pl, hcs, _, hl, hm, hmm, _, hx⟩
  · simp [Value.cells] at hcs
    obtain ⟨rfl, rfl, rfl⟩ := hcs
    exact ⟨[], rfl, Nat.le_refl _, Nat.zero_le _, fun i x hx => by simp at hx⟩
  · simp [Value.cells] at hcs
    obtain ⟨rfl, rfl, rfl⟩ := hcs
    rw [if_pos rfl] at hmm
    subst hmm
    have k1 : Tryd.prog.cellsOf 5 = 1 := by kernel_rfl
    have each : ∀ i, i < l → ∃ v : Nat, v < 256 ∧ W.cell? (x.add i) = some (.int .u8 (v : Int)) := fun i hi => by
      obtain ⟨cs', h1, h2⟩ := hx i (by omega)
      rw [k1] at h1
      obtain ⟨hl1, _, hc⟩ := World.cells?_some h1
      match cs', hl1 with
      | [c0], _ =>
        obtain ⟨z, e0, _, wz⟩ := DataW.trod_int Tryd.underlying5 h2
        simp at e0
        subst e0
        obtain ⟨v, rfl, hv⟩ := Md.u8_nat wz
        have e := hc 0 (by omega)
        rw [Deep.add_add, Nat.mul_one, Nat.add_zero] at e
        exact ⟨v, hv, e⟩
    obtain ⟨V, hV⟩ := Deep.choose_lt each
    refine ⟨(List.range l).map V, by simp, hl, hm, fun i v hv => ?_⟩
    obtain ⟨g, e⟩ := List.getElem?_eq_some_iff.1 hv
    have hj : i < l := by simpa using g
    have ev : V i = v := by simpa using e
    obtain ⟨r0, r1⟩ := hV i hj
    have hz' : W.cell? x = some (.int .u8 ((V 0 : Nat) : Int)) := (hV 0 (by omega)).2
    obtain ⟨hs, hb⟩ := Lk.spot_none hz'
    rw [ev] at r0 r1
    rw [hs, Lk.add_plain] at r1
    exact ⟨r0, x.block, x.off, by rw [← hs], hb, r1⟩

end Go.Proofs.YthaenobciefjiaaDoor
