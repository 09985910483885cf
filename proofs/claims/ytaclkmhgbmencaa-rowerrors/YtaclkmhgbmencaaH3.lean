/- Columns that are filled in place. -/
import Derived.Test.YtaclkmhgbmencaaG7
namespace Go.Proofs.Ytaclkmhgbmencaa
open Go.RowKit
namespace Vl
theorem cellsC_from : ∀ (l : List Col) (j : Nat) (u : Value), (cellsC l)[j]? = some u → ∃ i c, l[i]? = some c ∧ ((j = i * 7 ∧ u = .string c.nm) ∨ (j = i * 7 + 1 ∧ u = .int .i64 c.k) ∨ (j = i * 7 + 2 ∧ u = .bool c.nn) ∨ (j = i * 7 + 3 ∧ u = .int .i64 c.d.k) ∨ (j = i * 7 + 4 ∧ u = .int .i64 c.d.n) ∨ (j = i * 7 + 5 ∧ u = .float .f64 c.d.f) ∨ (j = i * 7 + 6 ∧ u = .string c.d.s))
  | [], j, c, h => by simp [cellsC] at h
  | x :: l, 0, c, h => ⟨0, x, rfl, by simp [cellsC] at h; simp [h]⟩
  | x :: l, 1, c, h => ⟨0, x, rfl, by simp [cellsC] at h; simp [h]⟩
  | x :: l, 2, c, h => ⟨0, x, rfl, by simp [cellsC] at h; simp [h]⟩
  | x :: l, 3, c, h => ⟨0, x, rfl, by simp [cellsC] at h; simp [h]⟩
  | x :: l, 4, c, h => ⟨0, x, rfl, by simp [cellsC] at h; simp [h]⟩
  | x :: l, 5, c, h => ⟨0, x, rfl, by simp [cellsC] at h; simp [h]⟩
  | x :: l, 6, c, h => ⟨0, x, rfl, by simp [cellsC] at h; simp [h]⟩
  | x :: l, j + 7, c, h => by
    obtain ⟨i, v, h1, h2⟩ := cellsC_from l j c (by simpa [cellsC] using h)
    refine ⟨i + 1, v, by simpa using h1, ?_⟩
    rcases h2 with h2 | h2 | h2 | h2 | h2 | h2 | h2
    · exact Or.inl ⟨by omega, h2.2⟩
    · exact Or.inr (Or.inl ⟨by omega, h2.2⟩)
    · exact Or.inr (Or.inr (Or.inl ⟨by omega, h2.2⟩))
    · exact Or.inr (Or.inr (Or.inr (Or.inl ⟨by omega, h2.2⟩)))
    · exact Or.inr (Or.inr (Or.inr (Or.inr (Or.inl ⟨by omega, h2.2⟩))))
    · exact Or.inr (Or.inr (Or.inr (Or.inr (Or.inr (Or.inl ⟨by omega, h2.2⟩)))))
    · exact Or.inr (Or.inr (Or.inr (Or.inr (Or.inr (Or.inr (⟨by omega, h2.2⟩))))))
structure FilC (w : World) (g n : Nat) (ys : List Col) : Prop where
  lt : g < w.heap.size
  ex : ∀ q, q < n * 7 → ∃ x, w.cell? ⟨g, q, none⟩ = some x
  fz : ∀ q, w.frozen? ⟨g, q, none⟩ = false
  row : ∀ (j : Nat) (c : Col), ys[j]? = some c → C7 w g (j * 7) c
theorem FilC.colIn {w : World} {g n : Nat} {ys : List Col} (h : FilC w g n ys) : ColIn w (some ⟨g, 0, .none⟩) ys := by
  refine Or.inr ⟨g, 0, rfl, h.lt, fun j u hu => ?_⟩
  obtain ⟨i, v, h1, h2⟩ := cellsC_from ys j u hu
  obtain ⟨_, r0, r1, r2, r3, r4, r5, r6⟩ := h.row i v h1
  rw [Nat.zero_add]
  rcases h2 with ⟨e, rfl⟩ | ⟨e, rfl⟩ | ⟨e, rfl⟩ | ⟨e, rfl⟩ | ⟨e, rfl⟩ | ⟨e, rfl⟩ | ⟨e, rfl⟩
  · rw [e]; exact r0
  · rw [e]; exact r1
  · rw [e]; exact r2
  · rw [e]; exact r3
  · rw [e]; exact r4
  · rw [e]; exact r5
  · rw [e]; exact r6
theorem FilC.of {w : World} {g n : Nat} {ys : List Col} {cur : Array Value} {t : TypeId} {rest : List Value} (hg : w.heap[g]? = some (.cells cur t (0, 0))) (hc : cur = (cellsC ys ++ rest).toArray) (hn : cur.size = n * 7) : FilC w g n ys := by
  have hl := heap_lt hg
  have hcell : ∀ q, w.cell? ⟨g, q, none⟩ = cur[q]? := fun q => by simp [World.cell?, hg]
  refine ⟨hl, fun q hq => ⟨cur[q]'(by omega), by rw [hcell]; exact Array.getElem?_eq_getElem _⟩, fun q => by simp [World.frozen?, hg], fun j v hv => ?_⟩
  obtain ⟨c0, c1, c2, c3, c4, c5, c6⟩ := cellsC_at ys j v hv
  have hput : ∀ (q : Nat) (u : Value), (cellsC ys)[q]? = some u → w.cell? ⟨g, q, none⟩ = some u := fun q u hu => by
    rw [hcell, hc, List.getElem?_toArray, List.getElem?_append_left (List.getElem?_eq_some_iff.1 hu).1]
    exact hu
  exact ⟨hl, hput _ _ c0, hput _ _ c1, hput _ _ c2, hput _ _ c3, hput _ _ c4, hput _ _ c5, hput _ _ c6⟩
/-- One column more. -/
theorem FilC.put {W : World} {g n k : Nat} {ys : List Col} (h : FilC W g n ys) (v : Col) (hl : ys.length = k) (hk : k < n) :
    FilC (((((((W.setCell ⟨g, k * 7, none⟩ (.string v.nm)).setCell ⟨g, k * 7 + 1, none⟩ (.int .i64 v.k)).setCell ⟨g, k * 7 + 2, none⟩ (.bool v.nn)).setCell ⟨g, k * 7 + 3, none⟩ (.int .i64 v.d.k)).setCell ⟨g, k * 7 + 4, none⟩ (.int .i64 v.d.n)).setCell ⟨g, k * 7 + 5, none⟩ (.float .f64 v.d.f)).setCell ⟨g, k * 7 + 6, none⟩ (.string v.d.s)) g n (ys ++ [v]) := by
  have ne : ∀ i j : Nat, i ≠ j → (⟨g, i, none⟩ : Addr) ≠ ⟨g, j, none⟩ := fun i j h e => h (by injection e)
  refine ⟨by simpa using h.lt, fun q hq => ?_, fun q => ?_, fun j u hu => ?_⟩
  · obtain ⟨x, hx⟩ := h.ex q hq
    obtain ⟨x, hx⟩ := cell?_setCell_some (p := ⟨g, k * 7, none⟩) (x := .string v.nm) hx
    obtain ⟨x, hx⟩ := cell?_setCell_some (p := ⟨g, k * 7 + 1, none⟩) (x := .int .i64 v.k) hx
    obtain ⟨x, hx⟩ := cell?_setCell_some (p := ⟨g, k * 7 + 2, none⟩) (x := .bool v.nn) hx
    obtain ⟨x, hx⟩ := cell?_setCell_some (p := ⟨g, k * 7 + 3, none⟩) (x := .int .i64 v.d.k) hx
    obtain ⟨x, hx⟩ := cell?_setCell_some (p := ⟨g, k * 7 + 4, none⟩) (x := .int .i64 v.d.n) hx
    obtain ⟨x, hx⟩ := cell?_setCell_some (p := ⟨g, k * 7 + 5, none⟩) (x := .float .f64 v.d.f) hx
    exact cell?_setCell_some (p := ⟨g, k * 7 + 6, none⟩) (x := .string v.d.s) hx
  · rw [World.frozen?_setCell, World.frozen?_setCell, World.frozen?_setCell, World.frozen?_setCell, World.frozen?_setCell, World.frozen?_setCell, World.frozen?_setCell]; exact h.fz q
  · have hlt : g < (((((((W.setCell ⟨g, k * 7, none⟩ (.string v.nm)).setCell ⟨g, k * 7 + 1, none⟩ (.int .i64 v.k)).setCell ⟨g, k * 7 + 2, none⟩ (.bool v.nn)).setCell ⟨g, k * 7 + 3, none⟩ (.int .i64 v.d.k)).setCell ⟨g, k * 7 + 4, none⟩ (.int .i64 v.d.n)).setCell ⟨g, k * 7 + 5, none⟩ (.float .f64 v.d.f)).setCell ⟨g, k * 7 + 6, none⟩ (.string v.d.s)).heap.size := by simpa using h.lt
    by_cases e : j < k
    · rw [List.getElem?_append_left (by omega)] at hu
      obtain ⟨_, r0, r1, r2, r3, r4, r5, r6⟩ := h.row j u hu
      refine ⟨hlt, ?_, ?_, ?_, ?_, ?_, ?_, ?_⟩
      · rw [sc_other _ _ _ _ (ne _ _ (by omega)), sc_other _ _ _ _ (ne _ _ (by omega)), sc_other _ _ _ _ (ne _ _ (by omega)), sc_other _ _ _ _ (ne _ _ (by omega)), sc_other _ _ _ _ (ne _ _ (by omega)), sc_other _ _ _ _ (ne _ _ (by omega)), sc_other _ _ _ _ (ne _ _ (by omega))]; exact r0
      · rw [sc_other _ _ _ _ (ne _ _ (by omega)), sc_other _ _ _ _ (ne _ _ (by omega)), sc_other _ _ _ _ (ne _ _ (by omega)), sc_other _ _ _ _ (ne _ _ (by omega)), sc_other _ _ _ _ (ne _ _ (by omega)), sc_other _ _ _ _ (ne _ _ (by omega)), sc_other _ _ _ _ (ne _ _ (by omega))]; exact r1
      · rw [sc_other _ _ _ _ (ne _ _ (by omega)), sc_other _ _ _ _ (ne _ _ (by omega)), sc_other _ _ _ _ (ne _ _ (by omega)), sc_other _ _ _ _ (ne _ _ (by omega)), sc_other _ _ _ _ (ne _ _ (by omega)), sc_other _ _ _ _ (ne _ _ (by omega)), sc_other _ _ _ _ (ne _ _ (by omega))]; exact r2
      · rw [sc_other _ _ _ _ (ne _ _ (by omega)), sc_other _ _ _ _ (ne _ _ (by omega)), sc_other _ _ _ _ (ne _ _ (by omega)), sc_other _ _ _ _ (ne _ _ (by omega)), sc_other _ _ _ _ (ne _ _ (by omega)), sc_other _ _ _ _ (ne _ _ (by omega)), sc_other _ _ _ _ (ne _ _ (by omega))]; exact r3
      · rw [sc_other _ _ _ _ (ne _ _ (by omega)), sc_other _ _ _ _ (ne _ _ (by omega)), sc_other _ _ _ _ (ne _ _ (by omega)), sc_other _ _ _ _ (ne _ _ (by omega)), sc_other _ _ _ _ (ne _ _ (by omega)), sc_other _ _ _ _ (ne _ _ (by omega)), sc_other _ _ _ _ (ne _ _ (by omega))]; exact r4
      · rw [sc_other _ _ _ _ (ne _ _ (by omega)), sc_other _ _ _ _ (ne _ _ (by omega)), sc_other _ _ _ _ (ne _ _ (by omega)), sc_other _ _ _ _ (ne _ _ (by omega)), sc_other _ _ _ _ (ne _ _ (by omega)), sc_other _ _ _ _ (ne _ _ (by omega)), sc_other _ _ _ _ (ne _ _ (by omega))]; exact r5
      · rw [sc_other _ _ _ _ (ne _ _ (by omega)), sc_other _ _ _ _ (ne _ _ (by omega)), sc_other _ _ _ _ (ne _ _ (by omega)), sc_other _ _ _ _ (ne _ _ (by omega)), sc_other _ _ _ _ (ne _ _ (by omega)), sc_other _ _ _ _ (ne _ _ (by omega)), sc_other _ _ _ _ (ne _ _ (by omega))]; exact r6
    · have hj : j = k := by
        obtain ⟨q, _⟩ := List.getElem?_eq_some_iff.1 hu
        simp at q; omega
      subst hj
      rw [List.getElem?_append_right (by omega), hl, Nat.sub_self] at hu
      cases hu
      obtain ⟨x0, e0⟩ := h.ex (j * 7) (by omega)
      obtain ⟨x1, e1⟩ := h.ex (j * 7 + 1) (by omega)
      obtain ⟨x2, e2⟩ := h.ex (j * 7 + 2) (by omega)
      obtain ⟨x3, e3⟩ := h.ex (j * 7 + 3) (by omega)
      obtain ⟨x4, e4⟩ := h.ex (j * 7 + 4) (by omega)
      obtain ⟨x5, e5⟩ := h.ex (j * 7 + 5) (by omega)
      obtain ⟨x6, e6⟩ := h.ex (j * 7 + 6) (by omega)
      refine ⟨hlt, ?_, ?_, ?_, ?_, ?_, ?_, ?_⟩
      · rw [sc_other _ _ _ _ (ne _ _ (by omega)), sc_other _ _ _ _ (ne _ _ (by omega)), sc_other _ _ _ _ (ne _ _ (by omega)), sc_other _ _ _ _ (ne _ _ (by omega)), sc_other _ _ _ _ (ne _ _ (by omega)), sc_other _ _ _ _ (ne _ _ (by omega))]; exact sc_same _ _ _ _ (e0)
      · rw [sc_other _ _ _ _ (ne _ _ (by omega)), sc_other _ _ _ _ (ne _ _ (by omega)), sc_other _ _ _ _ (ne _ _ (by omega)), sc_other _ _ _ _ (ne _ _ (by omega)), sc_other _ _ _ _ (ne _ _ (by omega))]; exact sc_same _ _ _ _ (by rw [sc_other _ _ _ _ (ne _ _ (by omega))]; exact e1)
      · rw [sc_other _ _ _ _ (ne _ _ (by omega)), sc_other _ _ _ _ (ne _ _ (by omega)), sc_other _ _ _ _ (ne _ _ (by omega)), sc_other _ _ _ _ (ne _ _ (by omega))]; exact sc_same _ _ _ _ (by rw [sc_other _ _ _ _ (ne _ _ (by omega)), sc_other _ _ _ _ (ne _ _ (by omega))]; exact e2)
      · rw [sc_other _ _ _ _ (ne _ _ (by omega)), sc_other _ _ _ _ (ne _ _ (by omega)), sc_other _ _ _ _ (ne _ _ (by omega))]; exact sc_same _ _ _ _ (by rw [sc_other _ _ _ _ (ne _ _ (by omega)), sc_other _ _ _ _ (ne _ _ (by omega)), sc_other _ _ _ _ (ne _ _ (by omega))]; exact e3)
      · rw [sc_other _ _ _ _ (ne _ _ (by omega)), sc_other _ _ _ _ (ne _ _ (by omega))]; exact sc_same _ _ _ _ (by rw [sc_other _ _ _ _ (ne _ _ (by omega)), sc_other _ _ _ _ (ne _ _ (by omega)), sc_other _ _ _ _ (ne _ _ (by omega)), sc_other _ _ _ _ (ne _ _ (by omega))]; exact e4)
      · rw [sc_other _ _ _ _ (ne _ _ (by omega))]; exact sc_same _ _ _ _ (by rw [sc_other _ _ _ _ (ne _ _ (by omega)), sc_other _ _ _ _ (ne _ _ (by omega)), sc_other _ _ _ _ (ne _ _ (by omega)), sc_other _ _ _ _ (ne _ _ (by omega)), sc_other _ _ _ _ (ne _ _ (by omega))]; exact e5)
      · exact sc_same _ _ _ _ (by rw [sc_other _ _ _ _ (ne _ _ (by omega)), sc_other _ _ _ _ (ne _ _ (by omega)), sc_other _ _ _ _ (ne _ _ (by omega)), sc_other _ _ _ _ (ne _ _ (by omega)), sc_other _ _ _ _ (ne _ _ (by omega)), sc_other _ _ _ _ (ne _ _ (by omega))]; exact e6)
end Vl

end Go.Proofs.Ytaclkmhgbmencaa
