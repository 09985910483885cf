/- A row of values that came in, read as plain data. -/
import Derived.Test.YtanljohnmaokeaaOpenV
import Derived.Test.YtanljohnmaokeaaR2
import Derived.Deep.Slices
namespace Go.Proofs.Ytanljohnmaokeaa
open Go.ChangeShapes Go.WideShapes Go.ChangeAt Go.RowKit

theorem Vl.spot_none {w : World} {a : Addr} {v : Value} (h : w.cell? a = some v) : a = ⟨a.block, a.off, none⟩ ∧ a.block < w.heap.size := by
  have hb := World.block_lt_of_cell? w a h
  obtain ⟨b, o, s⟩ := a
  cases s with
  | none => exact ⟨rfl, hb⟩
  | some x =>
    unfold World.cell? at h
    split at h
    · simp at h
    · cases h

/-- The cells of one value that came in. -/
theorem Vl.open_four {H : Type} {enc : TypeId × Value → H} {W : World} {n : Nat} {cs : List Value} {y : DataW H × List MemPlace} (h : DataW.trod enc Try.prog W 0 (fun _ => true) true n 24 cs = some y) :
    ∃ v : Vl.V, cs = [.int .i64 v.k, .int .i64 v.n, .float .f64 v.f, .string v.s] ∧ v.Fit := by
  obtain ⟨y0, y1, y2, y3, m, _, hl, h0, h1, h2, h3⟩ := Joins.trod_struct4 Try.underlying24 h
  have k3 : Try.prog.cellsOf 3 = 1 := by kernel_rfl
  have k2 : Try.prog.cellsOf 2 = 1 := by kernel_rfl
  have k22 : Try.prog.cellsOf 22 = 1 := by kernel_rfl
  have k9 : Try.prog.cellsOf 9 = 1 := by kernel_rfl
  dsimp only at h0 h1 h2 h3
  rw [cells24] at hl
  rw [k3] at h0
  rw [k2] at h1
  rw [k22] at h2
  rw [k9] at h3
  match cs, hl with
  | [c0, c1, c2, c3], _ =>
    obtain ⟨k, e0, _, wk⟩ := DataW.trod_int Try.underlying3 h0
    obtain ⟨n, e1, _, wn⟩ := DataW.trod_int Try.underlying2 h1
    obtain ⟨f, e2, wf⟩ := Vl.trod_float (v := c2) Try.underlying22 h2
    obtain ⟨s, e3, _, ws⟩ := DataW.trod_string Try.underlying9 h3
    simp at e0 e1 e3
    subst e0 e1 e2 e3
    exact ⟨⟨k, n, f, s⟩, rfl, (Vl.wf64 wk).1, (Vl.wf64 wk).2, (Vl.wf64 wn).1, (Vl.wf64 wn).2, wf, ws⟩

/-- What is known of a row of values that came in. -/
structure Vl.Row1 (W : World) (a : Option Addr) (l c : Nat) (xs : List Vl.V) : Prop where
  len : xs.length = l
  le : l ≤ c
  nil : a = none → l = 0 ∧ c = 0
  row : Vl.RowIn W a xs
  fit : ∀ (j : Nat) (v : Vl.V), xs[j]? = some v → v.Fit

theorem open_values {H : Type} {enc : TypeId × Value → H} {W : World} {a : Option Addr} {l c : Nat} {d : DataW H} {p : List MemPlace} (h : DataW.Trod enc Try.prog W 0 (fun _ => true) true 42 (.slice a l c) d p) :
    ∃ xs : List Vl.V, Vl.Row1 W a l c xs := by
  obtain ⟨fuel, hf⟩ := h
  rcases Deep.open_slice Try.underlying42 hf with ⟨hcs, _⟩ | ⟨x, l', c', m, n, D, Pl, hcs, _, hl, hm, hmm, _, hx⟩
  · simp [Value.cells] at hcs
    obtain ⟨rfl, rfl, rfl⟩ := hcs
    exact ⟨[], rfl, Nat.le_refl _, fun _ => ⟨rfl, rfl⟩, Or.inl rfl, fun j v h => by simp at h⟩
  · simp [Value.cells] at hcs
    obtain ⟨rfl, rfl, rfl⟩ := hcs
    rw [if_pos rfl] at hmm
    subst hmm
    have each : ∀ i, i < l → ∃ v : Vl.V, v.Fit ∧ W.cell? (x.add (i * 4)) = some (.int .i64 v.k) ∧ W.cell? (x.add (i * 4 + 1)) = some (.int .i64 v.n) ∧ W.cell? (x.add (i * 4 + 2)) = some (.float .f64 v.f) ∧ W.cell? (x.add (i * 4 + 3)) = some (.string v.s) := fun i hi => by
      obtain ⟨cs', h1, h2⟩ := hx i (by omega)
      rw [cells24] at h1
      obtain ⟨_, _, hc⟩ := World.cells?_some h1
      obtain ⟨v, rfl, hv⟩ := Vl.open_four h2
      have e0 := hc 0 (by omega)
      have e1 := hc 1 (by omega)
      have e2 := hc 2 (by omega)
      have e3 := hc 3 (by omega)
      rw [Deep.add_add] at e0 e1 e2 e3
      exact ⟨v, hv, e0, e1, e2, e3⟩
    haveI : Inhabited Vl.V := ⟨⟨0, 0, 0, ⟨#[]⟩⟩⟩
    obtain ⟨V, hV⟩ := Deep.choose_lt each
    refine ⟨(List.range l).map V, by simp, hl, (fun h => nomatch h), ?_, fun j v hv => ?_⟩
    · rcases Nat.eq_zero_or_pos l with h0 | h0
      · exact Or.inl (by simp [h0])
      · have hz := (hV 0 h0).2.1
        rw [Nat.zero_mul] at hz
        have hz' : W.cell? x = some (.int .i64 (V 0).k) := hz
        obtain ⟨hs, hb⟩ := Vl.spot_none hz'
        refine Or.inr ⟨x.block, x.off, by rw [← hs], hb, fun j v hv => ?_⟩
        obtain ⟨g, e⟩ := List.getElem?_eq_some_iff.1 hv
        have hj : j < l := by simpa using g
        have ev : V j = v := by simpa using e
        obtain ⟨_, r0, r1, r2, r3⟩ := hV j hj
        rw [ev] at r0 r1 r2 r3
        rw [hs, Vl.add_plain] at r0 r1 r2 r3
        exact ⟨r0, r1, r2, r3⟩
    · obtain ⟨g, e⟩ := List.getElem?_eq_some_iff.1 hv
      have hj : j < l := by simpa using g
      have ev : V j = v := by simpa using e
      rw [← ev]
      exact (hV j hj).1

end Go.Proofs.Ytanljohnmaokeaa
