/- Rows of values, columns and rows of columns that came in, read as plain data. -/
import Derived.Test.YtaclkmhgbmencaaOpenV
import Derived.Test.YtaclkmhgbmencaaH3
import Derived.Deep.Slices
namespace Go.Proofs.Ytaclkmhgbmencaa
open Go.ChangeShapes Go.WideShapes Go.ChangeAt Go.RowKit

theorem Vl.spot_none {w : World} {a : Addr} {v : Value} (h : w.cell? a = some v) : a = ⟨a.block, a.off, none⟩ ∧ a.block < w.heap.size := by
  have hb := World.block_lt_of_cell? w a h
  obtain ⟨b, o, s⟩ := a
  cases s with
  | none => exact ⟨rfl, hb⟩
  | some x =>
    unfold World.cell? at h
    split at h
    · simp at h
    · cases h

/-- The cells of one value that came in. -/
theorem Vl.open_four {H : Type} {enc : TypeId × Value → H} {W : World} {n : Nat} {cs : List Value} {y : DataW H × List MemPlace} (h : DataW.trod enc Try.prog W 0 (fun _ => true) true n 25 cs = some y) :
    ∃ v : Vl.V, cs = [.int .i64 v.k, .int .i64 v.n, .float .f64 v.f, .string v.s] ∧ v.Fit := by
  obtain ⟨y0, y1, y2, y3, m, _, hl, h0, h1, h2, h3⟩ := Joins.trod_struct4 Try.underlying25 h
  have k3 : Try.prog.cellsOf 3 = 1 := by kernel_rfl
  have k2 : Try.prog.cellsOf 2 = 1 := by kernel_rfl
  have k22 : Try.prog.cellsOf 23 = 1 := by kernel_rfl
  have k9 : Try.prog.cellsOf 9 = 1 := by kernel_rfl
  dsimp only at h0 h1 h2 h3
  rw [cells24] at hl
  rw [k3] at h0
  rw [k2] at h1
  rw [k22] at h2
  rw [k9] at h3
  match cs, hl with
  | [c0, c1, c2, c3], _ =>
    obtain ⟨k, e0, _, wk⟩ := DataW.trod_int Try.underlying3 h0
    obtain ⟨n, e1, _, wn⟩ := DataW.trod_int Try.underlying2 h1
    obtain ⟨f, e2, wf⟩ := Vl.trod_float (v := c2) Try.underlying23 h2
    obtain ⟨s, e3, _, ws⟩ := DataW.trod_string Try.underlying9 h3
    simp at e0 e1 e3
    subst e0 e1 e2 e3
    exact ⟨⟨k, n, f, s⟩, rfl, (Vl.wf64 wk).1, (Vl.wf64 wk).2, (Vl.wf64 wn).1, (Vl.wf64 wn).2, wf, ws⟩

theorem cellsCol : Try.prog.cellsOf 27 = 7 := by kernel_rfl
/-- The cells of one column that came in. -/
theorem Vl.open_seven {H : Type} {enc : TypeId × Value → H} {W : World} {n : Nat} {cs : List Value} {y : DataW H × List MemPlace} (h : DataW.trod enc Try.prog W 0 (fun _ => true) true n 27 cs = some y) :
    ∃ c : Vl.Col, cs = [.string c.nm, .int .i64 c.k, .bool c.nn, .int .i64 c.d.k, .int .i64 c.d.n, .float .f64 c.d.f, .string c.d.s] := by
  obtain ⟨y0, y1, y2, y3, m, _, hl, h0, h1, h2, h3⟩ := Joins.trod_struct4 Try.underlying27 h
  have k0 : Try.prog.cellsOf 9 = 1 := by kernel_rfl
  have k1 : Try.prog.cellsOf 3 = 1 := by kernel_rfl
  have k2 : Try.prog.cellsOf 4 = 1 := by kernel_rfl
  dsimp only at h0 h1 h2 h3
  rw [cellsCol] at hl
  rw [k0] at h0
  rw [k1] at h1
  rw [k2] at h2
  rw [cells24] at h3
  match cs, hl with
  | [c0, c1, c2, c3, c4, c5, c6], _ =>
    obtain ⟨s, e0, _, _⟩ := DataW.trod_string Try.underlying9 h0
    obtain ⟨k, e1, _, _⟩ := DataW.trod_int Try.underlying3 h1
    obtain ⟨b, e2, _⟩ := DataW.trod_bool Try.underlying4 h2
    obtain ⟨v, e3, _⟩ := Vl.open_four h3
    simp at e0 e1 e2 e3
    obtain ⟨rfl, rfl, rfl, rfl⟩ := e3
    subst e0 e1 e2
    exact ⟨⟨s, k, b, v⟩, rfl⟩
theorem open_column {H : Type} {enc : TypeId × Value → H} {W : World} {base : Nat} {v : Value} {d : DataW H} {p : List MemPlace} (hv : Value.okWide Try.prog W .any base 27 v) (h : DataW.Trod enc Try.prog W 0 (fun _ => true) true 27 v d p) :
    ∃ x : Vl.Col, v = .agg #[.string x.nm, .int .i64 x.k, .bool x.nn, .int .i64 x.d.k, .int .i64 x.d.n, .float .f64 x.d.f, .string x.d.s] := by
  obtain ⟨cs, rfl, _⟩ := okWide_struct Try.underlying27 hv
  obtain ⟨fuel, hf⟩ := h
  obtain ⟨x, hx⟩ := Vl.open_seven hf
  refine ⟨x, ?_⟩
  have : cs.toList = [.string x.nm, .int .i64 x.k, .bool x.nn, .int .i64 x.d.k, .int .i64 x.d.n, .float .f64 x.d.f, .string x.d.s] := by simpa [Value.cells] using hx
  rw [show cs = cs.toList.toArray from by simp, this]

/-- What is known of a row of values, of columns, that came in. -/
structure Vl.Row1 (W : World) (a : Option Addr) (l c : Nat) (xs : List Vl.V) : Prop where
  len : xs.length = l
  le : l ≤ c
  nil : a = none → l = 0 ∧ c = 0
  row : Vl.RowIn W a xs
structure Vl.Col1 (W : World) (a : Option Addr) (l c : Nat) (cs : List Vl.Col) : Prop where
  len : cs.length = l
  le : l ≤ c
  nil : a = none → l = 0 ∧ c = 0
  row : Vl.ColIn W a cs

theorem open_values {H : Type} {enc : TypeId × Value → H} {W : World} {a : Option Addr} {l c : Nat} {d : DataW H} {p : List MemPlace} (h : DataW.Trod enc Try.prog W 0 (fun _ => true) true 38 (.slice a l c) d p) :
    ∃ xs : List Vl.V, Vl.Row1 W a l c xs := by
  obtain ⟨fuel, hf⟩ := h
  rcases Deep.open_slice Try.underlying38 hf with ⟨hcs, _⟩ | ⟨x, l', c', m, n, D, Pl, hcs, _, hl, hm, hmm, _, hx⟩
  · simp [Value.cells] at hcs
    obtain ⟨rfl, rfl, rfl⟩ := hcs
    exact ⟨[], rfl, Nat.le_refl _, fun _ => ⟨rfl, rfl⟩, Or.inl rfl⟩
  · simp [Value.cells] at hcs
    obtain ⟨rfl, rfl, rfl⟩ := hcs
    rw [if_pos rfl] at hmm
    subst hmm
    have each : ∀ i, i < l → ∃ v : Vl.V, W.cell? (x.add (i * 4)) = some (.int .i64 v.k) ∧ W.cell? (x.add (i * 4 + 1)) = some (.int .i64 v.n) ∧ W.cell? (x.add (i * 4 + 2)) = some (.float .f64 v.f) ∧ W.cell? (x.add (i * 4 + 3)) = some (.string v.s) := fun i hi => by
      obtain ⟨cs', h1, h2⟩ := hx i (by omega)
      rw [cells24] at h1
      obtain ⟨_, _, hc⟩ := World.cells?_some h1
      obtain ⟨v, rfl, _⟩ := Vl.open_four h2
      have e0 := hc 0 (by omega)
      have e1 := hc 1 (by omega)
      have e2 := hc 2 (by omega)
      have e3 := hc 3 (by omega)
      rw [Deep.add_add] at e0 e1 e2 e3
      exact ⟨v, e0, e1, e2, e3⟩
    haveI : Inhabited Vl.V := ⟨⟨0, 0, 0, ⟨#[]⟩⟩⟩
    obtain ⟨V, hV⟩ := Deep.choose_lt each
    refine ⟨(List.range l).map V, by simp, hl, (fun h => nomatch h), ?_⟩
    rcases Nat.eq_zero_or_pos l with h0 | h0
    · exact Or.inl (by simp [h0, Vl.cellsV])
    · have hz := (hV 0 h0).1
      rw [Nat.zero_mul] at hz
      have hz' : W.cell? x = some (.int .i64 (V 0).k) := hz
      obtain ⟨hs, hb⟩ := Vl.spot_none hz'
      refine Or.inr ⟨x.block, x.off, by rw [← hs], hb, fun j u hu => ?_⟩
      obtain ⟨i, v, h1, h2⟩ := Vl.cellsV_from _ j u hu
      obtain ⟨g, e⟩ := List.getElem?_eq_some_iff.1 h1
      have hj : i < l := by simpa using g
      have ev : V i = v := by simpa using e
      obtain ⟨r0, r1, r2, r3⟩ := hV i hj
      rw [ev] at r0 r1 r2 r3
      rw [hs, Vl.add_plain] at r0 r1 r2 r3
      rcases h2 with ⟨e, rfl⟩ | ⟨e, rfl⟩ | ⟨e, rfl⟩ | ⟨e, rfl⟩
      · rw [e]; exact r0
      · rw [e]; exact r1
      · rw [e]; exact r2
      · rw [e]; exact r3

theorem open_columns {H : Type} {enc : TypeId × Value → H} {W : World} {a : Option Addr} {l c : Nat} {d : DataW H} {p : List MemPlace} (h : DataW.Trod enc Try.prog W 0 (fun _ => true) true 22 (.slice a l c) d p) :
    ∃ xs : List Vl.Col, Vl.Col1 W a l c xs := by
  obtain ⟨fuel, hf⟩ := h
  rcases Deep.open_slice Try.underlying22 hf with ⟨hcs, _⟩ | ⟨x, l', c', m, n, D, Pl, hcs, _, hl, hm, hmm, _, hx⟩
  · simp [Value.cells] at hcs
    obtain ⟨rfl, rfl, rfl⟩ := hcs
    exact ⟨[], rfl, Nat.le_refl _, fun _ => ⟨rfl, rfl⟩, Or.inl rfl⟩
  · simp [Value.cells] at hcs
    obtain ⟨rfl, rfl, rfl⟩ := hcs
    rw [if_pos rfl] at hmm
    subst hmm
    have each : ∀ i, i < l → ∃ v : Vl.Col, W.cell? (x.add (i * 7)) = some (.string v.nm) ∧ W.cell? (x.add (i * 7 + 1)) = some (.int .i64 v.k) ∧ W.cell? (x.add (i * 7 + 2)) = some (.bool v.nn) ∧ W.cell? (x.add (i * 7 + 3)) = some (.int .i64 v.d.k) ∧ W.cell? (x.add (i * 7 + 4)) = some (.int .i64 v.d.n) ∧ W.cell? (x.add (i * 7 + 5)) = some (.float .f64 v.d.f) ∧ W.cell? (x.add (i * 7 + 6)) = some (.string v.d.s) := fun i hi => by
      obtain ⟨cs', h1, h2⟩ := hx i (by omega)
      rw [cellsCol] at h1
      obtain ⟨_, _, hc⟩ := World.cells?_some h1
      obtain ⟨v, rfl⟩ := Vl.open_seven h2
      have e0 := hc 0 (by omega)
      have e1 := hc 1 (by omega)
      have e2 := hc 2 (by omega)
      have e3 := hc 3 (by omega)
      have e4 := hc 4 (by omega)
      have e5 := hc 5 (by omega)
      have e6 := hc 6 (by omega)
      rw [Deep.add_add] at e0 e1 e2 e3 e4 e5 e6
      exact ⟨v, e0, e1, e2, e3, e4, e5, e6⟩
    haveI : Inhabited Vl.Col := ⟨⟨⟨#[]⟩, 0, false, ⟨0, 0, 0, ⟨#[]⟩⟩⟩⟩
    obtain ⟨V, hV⟩ := Deep.choose_lt each
    refine ⟨(List.range l).map V, by simp, hl, (fun h => nomatch h), ?_⟩
    rcases Nat.eq_zero_or_pos l with h0 | h0
    · exact Or.inl (by simp [h0, Vl.cellsC])
    · have hz := (hV 0 h0).1
      rw [Nat.zero_mul] at hz
      have hz' : W.cell? x = some (.string (V 0).nm) := hz
      obtain ⟨hs, hb⟩ := Vl.spot_none hz'
      refine Or.inr ⟨x.block, x.off, by rw [← hs], hb, fun j u hu => ?_⟩
      obtain ⟨i, v, h1, h2⟩ := Vl.cellsC_from _ j u hu
      obtain ⟨g, e⟩ := List.getElem?_eq_some_iff.1 h1
      have hj : i < l := by simpa using g
      have ev : V i = v := by simpa using e
      obtain ⟨r0, r1, r2, r3, r4, r5, r6⟩ := hV i hj
      rw [ev] at r0 r1 r2 r3 r4 r5 r6
      rw [hs, Vl.add_plain] at r0 r1 r2 r3 r4 r5 r6
      rcases h2 with ⟨e, rfl⟩ | ⟨e, rfl⟩ | ⟨e, rfl⟩ | ⟨e, rfl⟩ | ⟨e, rfl⟩ | ⟨e, rfl⟩ | ⟨e, rfl⟩
      · rw [e]; exact r0
      · rw [e]; exact r1
      · rw [e]; exact r2
      · rw [e]; exact r3
      · rw [e]; exact r4
      · rw [e]; exact r5
      · rw [e]; exact r6

end Go.Proofs.Ytaclkmhgbmencaa
