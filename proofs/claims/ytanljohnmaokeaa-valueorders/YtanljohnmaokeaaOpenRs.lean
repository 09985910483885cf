/- A list of rows that came in, read as plain data. -/
import Derived.Test.YtanljohnmaokeaaOpenVs
import Derived.Test.YtanljohnmaokeaaO3
namespace Go.Proofs.Ytanljohnmaokeaa
open Go.ChangeShapes Go.WideShapes Go.ChangeAt Go.RowKit

/-- What is known of a list of rows that came in. -/
structure Vl.Rows1 (W : World) (a : Option Addr) (l c : Nat) (rs : List (List Vl.V)) : Prop where
  len : rs.length = l
  le : l ≤ c
  nil : a = none → l = 0 ∧ c = 0
  row : Vl.RsIn W a rs
  fit : ∀ (i : Nat) (xs : List Vl.V), rs[i]? = some xs → ∀ (j : Nat) (v : Vl.V), xs[j]? = some v → v.Fit

theorem open_rows {H : Type} {enc : TypeId × Value → H} {W : World} {a : Option Addr} {l c : Nat} {d : DataW H} {p : List MemPlace} (h : DataW.Trod enc Try.prog W 0 (fun _ => true) true 52 (.slice a l c) d p) :
    ∃ rs : List (List Vl.V), Vl.Rows1 W a l c rs := by
  have k42 : Try.prog.cellsOf 42 = 1 := by kernel_rfl
  obtain ⟨fuel, hf⟩ := h
  rcases Deep.open_slice1 Try.underlying52 k42 hf with ⟨hcs, _⟩ | ⟨x, l', c', m, n, V, D, Pl, hcs, _, hl, hm, hmm, _, hx⟩
  · simp [Value.cells] at hcs
    obtain ⟨rfl, rfl, rfl⟩ := hcs
    exact ⟨[], rfl, Nat.le_refl _, fun _ => ⟨rfl, rfl⟩, Or.inl rfl, fun i xs h => by simp at h⟩
  · simp [Value.cells] at hcs
    obtain ⟨rfl, rfl, rfl⟩ := hcs
    rw [if_pos rfl] at hmm
    subst hmm
    have each : ∀ i, i < l → ∃ xs : List Vl.V, ∃ q k, W.cell? (x.add i) = some (.slice q xs.length k) ∧ Vl.Row1 W q xs.length k xs := fun i hi => by
      obtain ⟨h1, h2⟩ := hx i (by omega)
      rcases Deep.open_slice Try.underlying42 h2 with ⟨e, _⟩ | ⟨y, ly, cy, _, _, _, _, e, _⟩
      · have e' : V i = .slice none 0 0 := by simpa using e
        rw [e'] at h1 h2
        obtain ⟨xs, hr⟩ := open_values (a := none) (l := 0) (c := 0) ⟨n, h2⟩
        have hl0 := hr.len
        exact ⟨xs, none, 0, by rw [hl0]; exact h1, by rw [hl0]; exact hr⟩
      · have e' : V i = .slice (some y) ly cy := by simpa using e
        rw [e'] at h1 h2
        obtain ⟨xs, hr⟩ := open_values (a := some y) (l := ly) (c := cy) ⟨n, h2⟩
        have hl0 := hr.len
        exact ⟨xs, some y, cy, by rw [hl0]; exact h1, by rw [hl0]; exact hr⟩
    obtain ⟨R, hR⟩ := Deep.choose_lt each
    refine ⟨(List.range l).map R, by simp, hl, (fun h => nomatch h), ?_, fun i xs hv => ?_⟩
    · rcases Nat.eq_zero_or_pos l with h0 | h0
      · exact Or.inl (by simp [h0])
      · obtain ⟨q0, c0, hz, _⟩ := hR 0 h0
        have hz' : W.cell? x = some (.slice q0 (R 0).length c0) := hz
        obtain ⟨hs, hb⟩ := Vl.spot_none hz'
        refine Or.inr ⟨x.block, x.off, by rw [← hs], hb, fun j xs hv => ?_⟩
        obtain ⟨g, e⟩ := List.getElem?_eq_some_iff.1 hv
        have hj : j < l := by simpa using g
        have ev : R j = xs := by simpa using e
        obtain ⟨q, k, r0, r1⟩ := hR j hj
        rw [ev] at r0 r1
        rw [hs, Vl.add_plain] at r0
        exact ⟨q, k, r0, r1.le, r1.nil, r1.row⟩
    · obtain ⟨g, e⟩ := List.getElem?_eq_some_iff.1 hv
      have hj : i < l := by simpa using g
      have ev : R i = xs := by simpa using e
      obtain ⟨q, k, _, r1⟩ := hR i hj
      rw [ev] at r1
      exact r1.fit
end Go.Proofs.Ytanljohnmaokeaa
