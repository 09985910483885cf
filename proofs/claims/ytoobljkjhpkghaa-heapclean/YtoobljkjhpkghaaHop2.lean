/- Steps with rows that came in, read as plain data. -/
import Derived.Test.YtoobljkjhpkghaaHop
import Derived.Test.YtoobljkjhpkghaaHa0
namespace Go.Proofs.Ytoobljkjhpkghaa
open Go.ChangeShapes Go.WideShapes Go.ChangeAt Go.RowKit

section
variable {H : Type} {enc : TypeId × Value → H} {P : Program} {w : World} {base : Nat} {held : Bool}
theorem Vl.trod_float {t : TypeId} {fuel : Nat} {v : Value} {x : DataW H × List MemPlace} {spare : Nat → Bool} (ht : P.underlying t = some (.float .f64)) (h : DataW.trod enc P w base spare held fuel t [v] = some x) : ∃ b, v = .float .f64 b ∧ b < 18446744073709551616 := by
  cases fuel with
  | zero => simp [DataW.trod] at h
  | succ n =>
    simp only [DataW.trod, ht] at h
    cases v <;> simp at h
    rename_i k b
    obtain ⟨⟨rfl, h2⟩, _⟩ := h
    exact ⟨b, rfl, by simpa [Lit.wf] using h2⟩
end

section
variable {H : Type} {enc : TypeId × Value → H} {P : Program} {w : World} {base : Nat} {spare : Nat → Bool} {held : Bool}
theorem trod_struct5 {t : TypeId} {f0 f1 f2 f3 f4 : Field} {fuel : Nat} {cs : List Value} {x : DataW H × List MemPlace} (ht : P.underlying t = some (.struct #[f0, f1, f2, f3, f4])) (h : DataW.trod enc P w base spare held fuel t cs = some x) :
    ∃ y0 y1 y2 y3 y4 n, cs.length = P.cellsOf t ∧ DataW.trod enc P w base spare held n f0.type ((cs.drop f0.offset).take (P.cellsOf f0.type)) = some y0 ∧
      DataW.trod enc P w base spare held n f1.type ((cs.drop f1.offset).take (P.cellsOf f1.type)) = some y1 ∧ DataW.trod enc P w base spare held n f2.type ((cs.drop f2.offset).take (P.cellsOf f2.type)) = some y2 ∧
      DataW.trod enc P w base spare held n f3.type ((cs.drop f3.offset).take (P.cellsOf f3.type)) = some y3 ∧ DataW.trod enc P w base spare held n f4.type ((cs.drop f4.offset).take (P.cellsOf f4.type)) = some y4 := by
  obtain ⟨xs, n, _, rfl, hl, hlen, hf⟩ := DataW.trod_struct ht h
  match xs, hlen with
  | [y0, y1, y2, y3, y4], _ => exact ⟨y0, y1, y2, y3, y4, n, hl, by simpa using hf 0 f0 rfl, by simpa using hf 1 f1 rfl, by simpa using hf 2 f2 rfl, by simpa using hf 3 f3 rfl, by simpa using hf 4 f4 rfl⟩
end
theorem cells24 : Try.prog.cellsOf 50 = 4 := by kernel_rfl
theorem cellsStep9 : Try.prog.cellsOf 39 = 5 := by kernel_rfl
theorem cellsBool : Try.prog.cellsOf 4 = 1 := by kernel_rfl
theorem cellsRow : Try.prog.cellsOf 37 = 1 := by kernel_rfl
/-- The cells of one value that came in. -/
theorem Vl.open_four {H : Type} {enc : TypeId × Value → H} {W : World} {n : Nat} {cs : List Value} {y : DataW H × List MemPlace} (h : DataW.trod enc Try.prog W 0 (fun _ => true) true n 50 cs = some y) :
    ∃ v : Vl.V, cs = [.int .i64 v.k, .int .i64 v.n, .float .f64 v.f, .string v.s] := by
  obtain ⟨y0, y1, y2, y3, m, _, hl, h0, h1, h2, h3⟩ := Joins.trod_struct4 Try.underlying50 h
  have k3 : Try.prog.cellsOf 3 = 1 := by kernel_rfl
  have k2 : Try.prog.cellsOf 2 = 1 := by kernel_rfl
  have k22 : Try.prog.cellsOf 48 = 1 := by kernel_rfl
  have k9 : Try.prog.cellsOf 9 = 1 := by kernel_rfl
  dsimp only at h0 h1 h2 h3
  rw [cells24] at hl
  rw [k3] at h0
  rw [k2] at h1
  rw [k22] at h2
  rw [k9] at h3
  match cs, hl with
  | [c0, c1, c2, c3], _ =>
    obtain ⟨k, e0, _, _⟩ := DataW.trod_int Try.underlying3 h0
    obtain ⟨n, e1, _, _⟩ := DataW.trod_int Try.underlying2 h1
    obtain ⟨f, e2, _⟩ := Vl.trod_float (v := c2) Try.underlying48 h2
    obtain ⟨s, e3, _, _⟩ := DataW.trod_string Try.underlying9 h3
    simp at e0 e1 e3
    subst e0 e1 e2 e3
    exact ⟨⟨k, n, f, s⟩, rfl⟩
/-- A row that came in, as the one cell that it is. -/
theorem open_row {H : Type} {enc : TypeId × Value → H} {W : World} {n : Nat} {c0 : Value} {y : DataW H × List MemPlace} (h : DataW.trod enc Try.prog W 0 (fun _ => true) true n 37 [c0] = some y) :
    ∃ (p : Option Addr) (c : Nat) (xs : List Vl.V), c0 = .slice p xs.length c ∧ xs.length ≤ c ∧ (p = none → xs.length = 0 ∧ c = 0) ∧ Vl.RowIn W p xs := by
  rcases Deep.open_slice Try.underlying37 h with ⟨hcs, _⟩ | ⟨x, l, c, m, n, D, Pl, hcs, _, hl, hm, hmm, _, hx⟩
  · simp at hcs
    exact ⟨none, 0, [], hcs, Nat.le_refl _, fun _ => ⟨rfl, rfl⟩, Or.inl rfl⟩
  · simp at hcs
    rw [if_pos rfl] at hmm
    subst hmm
    have each : ∀ i, i < l → ∃ v : Vl.V, W.cell? (x.add (i * 4)) = some (.int .i64 v.k) ∧ W.cell? (x.add (i * 4 + 1)) = some (.int .i64 v.n) ∧ W.cell? (x.add (i * 4 + 2)) = some (.float .f64 v.f) ∧ W.cell? (x.add (i * 4 + 3)) = some (.string v.s) := fun i hi => by
      obtain ⟨cs', h1, h2⟩ := hx i (by omega)
      rw [cells24] at h1
      obtain ⟨_, _, hc⟩ := World.cells?_some h1
      obtain ⟨v, rfl⟩ := Vl.open_four h2
      have e0 := hc 0 (by omega)
      have e1 := hc 1 (by omega)
      have e2 := hc 2 (by omega)
      have e3 := hc 3 (by omega)
      rw [Deep.add_add] at e0 e1 e2 e3
      exact ⟨v, e0, e1, e2, e3⟩
    haveI : Inhabited Vl.V := ⟨⟨0, 0, 0, ⟨#[]⟩⟩⟩
    obtain ⟨V, hV⟩ := Deep.choose_lt each
    refine ⟨some x, m, (List.range l).map V, by simpa using hcs, by simpa using hl, (fun h => nomatch h), ?_⟩
    rcases Nat.eq_zero_or_pos l with h0 | h0
    · exact Or.inl (by simp [h0, Vl.cellsV])
    · have hz := (hV 0 h0).1
      rw [Nat.zero_mul] at hz
      have hz' : W.cell? x = some (.int .i64 (V 0).k) := hz
      obtain ⟨hs, hb⟩ := Cg.spot_none hz'
      refine Or.inr ⟨x.block, x.off, by rw [← hs], hb, fun j u hu => ?_⟩
      obtain ⟨i, v, h1, h2⟩ := Vl.cellsV_from _ j u hu
      obtain ⟨g, e⟩ := List.getElem?_eq_some_iff.1 h1
      have hj : i < l := by simpa using g
      have ev : V i = v := by simpa using e
      obtain ⟨r0, r1, r2, r3⟩ := hV i hj
      rw [ev] at r0 r1 r2 r3
      rw [hs, Vl.add_plain] at r0 r1 r2 r3
      rcases h2 with ⟨e, rfl⟩ | ⟨e, rfl⟩ | ⟨e, rfl⟩ | ⟨e, rfl⟩
      · rw [e]; exact r0
      · rw [e]; exact r1
      · rw [e]; exact r2
      · rw [e]; exact r3
namespace Hp
/-- A step. -/
structure Stp where
  kd : Int
  xid : Int
  tid : Int
  rd : Bool
  p : Option Addr
  c : Nat
  xs : List Vl.V
/-- A row of steps that came in. -/
structure Stps (W : World) (a : Option Addr) (l c : Nat) (zs : List Stp) : Prop where
  len : zs.length = l
  le : l ≤ c
  big : l ≤ maxLen
  at_ : ∀ (i : Nat) x, zs[i]? = some x → (∃ b o, a = some ⟨b, o, none⟩ ∧ b < W.heap.size ∧ W.cell? ⟨b, o + i * 5, none⟩ = some (.int .i64 x.kd) ∧ W.cell? ⟨b, o + i * 5 + 1, none⟩ = some (.int .i64 x.xid) ∧ W.cell? ⟨b, o + i * 5 + 2, none⟩ = some (.int .i64 x.tid) ∧ W.cell? ⟨b, o + i * 5 + 3, none⟩ = some (.bool x.rd) ∧ W.cell? ⟨b, o + i * 5 + 4, none⟩ = some (.slice x.p x.xs.length x.c)) ∧ x.xs.length ≤ x.c ∧ (x.p = none → x.xs.length = 0 ∧ x.c = 0) ∧ Vl.RowIn W x.p x.xs
end Hp
set_option maxRecDepth 100000 in
theorem open_five {H : Type} {enc : TypeId × Value → H} {W : World} {n : Nat} {cs : List Value} {y : DataW H × List MemPlace} (h : DataW.trod enc Try.prog W 0 (fun _ => true) true n 39 cs = some y) :
    ∃ x : Hp.Stp, cs = [.int .i64 x.kd, .int .i64 x.xid, .int .i64 x.tid, .bool x.rd, .slice x.p x.xs.length x.c] ∧ x.xs.length ≤ x.c ∧ (x.p = none → x.xs.length = 0 ∧ x.c = 0) ∧ Vl.RowIn W x.p x.xs := by
  obtain ⟨y0, y1, y2, y3, y4, m, hl, h0, h1, h2, h3, h4⟩ := trod_struct5 Try.underlying39 h
  dsimp only at h0 h1 h2 h3 h4
  rw [cellsStep9] at hl
  rw [Cg.cellsInt] at h0 h1 h2
  rw [cellsBool] at h3
  rw [cellsRow] at h4
  match cs, hl with
  | [c0, c1, c2, c3, c4], _ =>
    simp at h0 h1 h2 h3 h4
    obtain ⟨k, e0, _, _⟩ := DataW.trod_int Try.underlying3 h0
    obtain ⟨x, e1, _, _⟩ := DataW.trod_int Try.underlying3 h1
    obtain ⟨t, e2, _, _⟩ := DataW.trod_int Try.underlying3 h2
    obtain ⟨b, e3, _⟩ := DataW.trod_bool Try.underlying4 h3
    simp at e0 e1 e2 e3
    subst e0 e1 e2 e3
    obtain ⟨p, c, xs, e4, r1, r2, r3⟩ := open_row h4
    subst e4
    exact ⟨⟨k, x, t, b, p, c, xs⟩, rfl, r1, r2, r3⟩
set_option maxRecDepth 100000 in
theorem open_steps9 {H : Type} {enc : TypeId × Value → H} {W : World} {a : Option Addr} {l c : Nat} {d : DataW H} {p : List MemPlace} (h : DataW.Trod enc Try.prog W 0 (fun _ => true) true 22 (.slice a l c) d p) :
    ∃ zs : List Hp.Stp, Hp.Stps W a l c zs := by
  obtain ⟨fuel, hf⟩ := h
  rcases Deep.open_slice Try.underlying22 hf with ⟨hcs, _⟩ | ⟨x, l', c', m, n, D, Pl, hcs, _, hl, hm, hmm, _, hx⟩
  · simp [Value.cells] at hcs
    obtain ⟨rfl, rfl, rfl⟩ := hcs
    exact ⟨[], rfl, Nat.le_refl _, Nat.zero_le _, fun i x hx => by simp at hx⟩
  · simp [Value.cells] at hcs
    obtain ⟨rfl, rfl, rfl⟩ := hcs
    rw [if_pos rfl] at hmm
    subst hmm
    have each : ∀ i, i < l → ∃ v : Hp.Stp, (W.cell? (x.add (i * 5)) = some (.int .i64 v.kd) ∧ W.cell? (x.add (i * 5 + 1)) = some (.int .i64 v.xid) ∧ W.cell? (x.add (i * 5 + 2)) = some (.int .i64 v.tid) ∧ W.cell? (x.add (i * 5 + 3)) = some (.bool v.rd) ∧ W.cell? (x.add (i * 5 + 4)) = some (.slice v.p v.xs.length v.c)) ∧ v.xs.length ≤ v.c ∧ (v.p = none → v.xs.length = 0 ∧ v.c = 0) ∧ Vl.RowIn W v.p v.xs := fun i hi => by
      obtain ⟨cs', h1, h2⟩ := hx i (by omega)
      rw [cellsStep9] at h1
      obtain ⟨_, _, hc⟩ := World.cells?_some h1
      obtain ⟨v, rfl, hv⟩ := open_five h2
      have e0 := hc 0 (by omega)
      have e1 := hc 1 (by omega)
      have e2 := hc 2 (by omega)
      have e3 := hc 3 (by omega)
      have e4 := hc 4 (by omega)
      rw [Deep.add_add] at e0 e1 e2 e3 e4
      exact ⟨v, ⟨e0, e1, e2, e3, e4⟩, hv⟩
    haveI : Inhabited Hp.Stp := ⟨⟨0, 0, 0, false, none, 0, []⟩⟩
    obtain ⟨V, hV⟩ := Deep.choose_lt each
    refine ⟨(List.range l).map V, by simp, hl, Nat.le_trans hl hm, fun i v hv => ?_⟩
    obtain ⟨g, e⟩ := List.getElem?_eq_some_iff.1 hv
    have hj : i < l := by simpa using g
    have ev : V i = v := by simpa using e
    obtain ⟨⟨r0, r1, r2, r3, r4⟩, hr⟩ := hV i hj
    have hz := (hV 0 (by omega)).1.1
    rw [Nat.zero_mul] at hz
    have hz' : W.cell? x = some (.int .i64 (V 0).kd) := hz
    obtain ⟨hs, hb⟩ := Cg.spot_none hz'
    rw [ev] at r0 r1 r2 r3 r4 hr
    rw [hs, Mm.addPlain] at r0 r1 r2 r3 r4
    exact ⟨⟨x.block, x.off, by rw [← hs], hb, r0, r1, r2, r3, r4⟩, hr⟩
end Go.Proofs.Ytoobljkjhpkghaa
