/- Rows that are copied and filled in place. -/
import Derived.Test.YtaclkmhgbmencaaG3
namespace Go.Proofs.Ytaclkmhgbmencaa
open Go.RowKit
namespace Vl

/-- copy of cells into a row of one's own. -/
theorem copy_any {P : Program} (w : World) (dT sT ty elem : TypeId) (g n m c size : Nat) (p : Option Addr) (cs : List Value) (cur : Array Value) (t : TypeId)
    (hu : P.underlying dT = some (.slice elem)) (hs : (P.info? elem).map (·.size) = some size) (hg : w.heap[g]? = some (.cells cur t (0, 0))) (hcur : cur.size = n * size) (hcs : cs.length = m * size) (hx : Lies w p cs) (h1 : ∀ v ∈ cs, v.oneCell' = true) :
    (Builtin.copy_ #[dT, sT] ty #[.slice (some ⟨g, 0, none⟩) n n, .slice p m c]).run P w = .ok (goInt (Nat.min m n)) (w.setRow g (cs.take (Nat.min m n * size) ++ cur.toList.drop (Nat.min m n * size)).toArray) := by
  cases hq : P.info? elem with
  | none => simp [hq] at hs
  | some i =>
    have hi : i.size = size := by simpa [hq] using hs
    have hk1 : Nat.min m n * size ≤ m * size := Nat.mul_le_mul_right _ (Nat.min_le_left _ _)
    have hk2 : Nat.min m n * size ≤ n * size := Nat.mul_le_mul_right _ (Nat.min_le_right _ _)
    generalize hk : Nat.min m n = k at *
    rcases hx with h0 | ⟨b, o, rfl, hb, hr⟩
    · have hz : k * size = 0 := by omega
      obtain rfl : cs = [] := List.length_eq_zero_iff.1 h0
      have e : w.setRow g (([] : List Value).take (k * size) ++ cur.toList.drop (k * size)).toArray = w := by
        rw [hz]; simp only [List.take_nil, List.drop_zero, List.nil_append, Array.toArray_toList]; exact setRow_self w g cur t (0, 0) hg
      rw [e]
      cases p with
      | none => simp [Builtin.copy_, run_underlying hu, Builtin.lenOf, Builtin.firstCells, sizeOf, typeInfo, hq, storeCells, hk]
      | some a => simp [Builtin.copy_, run_underlying hu, Builtin.lenOf, Builtin.firstCells, sizeOf, typeInfo, hq, storeCells, loadCells, loadCellsFrom, hk, hi, hz]
    · have hlen : (cs.take (k * size)).length = k * size := by rw [List.length_take]; omega
      have hl := run_loadCells_list (P := P) w ⟨b, o, none⟩ (cs.take (k * size)) (fun j v hj => by
        rw [add_plain]
        rw [List.getElem?_take] at hj
        split at hj
        · exact hr j v hj
        · cases hj)
      have hst := run_storeCells_at P g 0 t (cs.take (k * size)) 0 cur w hg (by rw [hlen]; omega) (fun v hv => h1 v (List.mem_of_mem_take hv))
      rw [hlen] at hl hst
      have hrow : (cur.toList.take (0 + 0) ++ cs.take (k * size) ++ cur.toList.drop (0 + 0 + k * size)) = cs.take (k * size) ++ cur.toList.drop (k * size) := by simp
      rw [hrow] at hst
      simp [Builtin.copy_, run_underlying hu, Builtin.lenOf, Builtin.firstCells, sizeOf, typeInfo, hq, hi, hl, hst, hk]

theorem cellsV_take : ∀ (k : Nat) (l : List V), (cellsV l).take (k * 4) = cellsV (l.take k)
  | 0, l => by simp [cellsV]
  | k + 1, [] => by simp [cellsV]
  | k + 1, v :: l => by
    rw [show (k + 1) * 4 = k * 4 + 4 from by omega]
    simp [cellsV, cellsV_take k l]
theorem cellsC_take : ∀ (k : Nat) (l : List Col), (cellsC l).take (k * 7) = cellsC (l.take k)
  | 0, l => by simp [cellsC]
  | k + 1, [] => by simp [cellsC]
  | k + 1, v :: l => by
    rw [show (k + 1) * 7 = k * 7 + 7 from by omega]
    simp [cellsC, cellsC_take k l]
theorem cellsV_from : ∀ (l : List V) (j : Nat) (c : Value), (cellsV l)[j]? = some c → ∃ i v, l[i]? = some v ∧ ((j = i * 4 ∧ c = .int .i64 v.k) ∨ (j = i * 4 + 1 ∧ c = .int .i64 v.n) ∨ (j = i * 4 + 2 ∧ c = .float .f64 v.f) ∨ (j = i * 4 + 3 ∧ c = .string v.s))
  | [], j, c, h => by simp [cellsV] at h
  | x :: l, 0, c, h => ⟨0, x, rfl, by simp [cellsV] at h; simp [h]⟩
  | x :: l, 1, c, h => ⟨0, x, rfl, by simp [cellsV] at h; simp [h]⟩
  | x :: l, 2, c, h => ⟨0, x, rfl, by simp [cellsV] at h; simp [h]⟩
  | x :: l, 3, c, h => ⟨0, x, rfl, by simp [cellsV] at h; simp [h]⟩
  | x :: l, j + 4, c, h => by
    obtain ⟨i, v, h1, h2⟩ := cellsV_from l j c (by simpa [cellsV] using h)
    refine ⟨i + 1, v, by simpa using h1, ?_⟩
    rcases h2 with h2 | h2 | h2 | h2
    · exact Or.inl ⟨by omega, h2.2⟩
    · exact Or.inr (Or.inl ⟨by omega, h2.2⟩)
    · exact Or.inr (Or.inr (Or.inl ⟨by omega, h2.2⟩))
    · exact Or.inr (Or.inr (Or.inr ⟨by omega, h2.2⟩))
/-- A row that is being filled: n places in block g, the first ones ys. -/
structure Fil (w : World) (g n : Nat) (ys : List V) : Prop where
  lt : g < w.heap.size
  ex : ∀ q, q < n * 4 → ∃ x, w.cell? ⟨g, q, none⟩ = some x
  fz : ∀ q, w.frozen? ⟨g, q, none⟩ = false
  row : ∀ (j : Nat) (v : V), ys[j]? = some v → V4 w g (j * 4) v
theorem Fil.below {w w1 : World} {g n : Nat} {ys : List V} (h : Fil w g n ys) (hb : Below w.heap.size w w1) : Fil w1 g n ys :=
  ⟨Nat.lt_of_lt_of_le h.lt hb.size, fun q hq => by rw [(bcell hb).1 _ _ h.lt]; exact h.ex q hq, fun q => by rw [(bcell hb).2 _ _ h.lt]; exact h.fz q, fun j v hv => (h.row j v hv).below hb⟩
theorem Fil.rowIn {w : World} {g n : Nat} {ys : List V} (h : Fil w g n ys) : RowIn w (some ⟨g, 0, .none⟩) ys := by
  refine Or.inr ⟨g, 0, rfl, h.lt, fun j u hu => ?_⟩
  obtain ⟨i, v, h1, h2⟩ := cellsV_from ys j u hu
  obtain ⟨_, r0, r1, r2, r3⟩ := h.row i v h1
  rw [Nat.zero_add]
  rcases h2 with ⟨e, rfl⟩ | ⟨e, rfl⟩ | ⟨e, rfl⟩ | ⟨e, rfl⟩
  · rw [e]; exact r0
  · rw [e]; exact r1
  · rw [e]; exact r2
  · rw [e]; exact r3
theorem Fil.of {w : World} {g n : Nat} {ys : List V} {cur : Array Value} {t : TypeId} {rest : List Value} (hg : w.heap[g]? = some (.cells cur t (0, 0))) (hc : cur = (cellsV ys ++ rest).toArray) (hn : cur.size = n * 4) : Fil w g n ys := by
  have hl := heap_lt hg
  have hcell : ∀ q, w.cell? ⟨g, q, none⟩ = cur[q]? := fun q => by simp [World.cell?, hg]
  refine ⟨hl, fun q hq => ⟨cur[q]'(by omega), by rw [hcell]; exact Array.getElem?_eq_getElem _⟩, fun q => by simp [World.frozen?, hg], fun j v hv => ?_⟩
  obtain ⟨c0, c1, c2, c3⟩ := cellsV_at ys j v hv
  have hput : ∀ (q : Nat) (u : Value), (cellsV ys)[q]? = some u → w.cell? ⟨g, q, none⟩ = some u := fun q u hu => by
    rw [hcell, hc, List.getElem?_toArray, List.getElem?_append_left (List.getElem?_eq_some_iff.1 hu).1]
    exact hu
  exact ⟨hl, hput _ _ c0, hput _ _ c1, hput _ _ c2, hput _ _ c3⟩
/-- One value more. -/
theorem Fil.put {W : World} {g n k : Nat} {ys : List V} (h : Fil W g n ys) (v : V) (hl : ys.length = k) (hk : k < n) :
    Fil ((((W.setCell ⟨g, k * 4, none⟩ (.int .i64 v.k)).setCell ⟨g, k * 4 + 1, none⟩ (.int .i64 v.n)).setCell ⟨g, k * 4 + 2, none⟩ (.float .f64 v.f)).setCell ⟨g, k * 4 + 3, none⟩ (.string v.s)) g n (ys ++ [v]) := by
  have ne : ∀ i j : Nat, i ≠ j → (⟨g, i, none⟩ : Addr) ≠ ⟨g, j, none⟩ := fun i j h e => h (by injection e)
  refine ⟨by simpa using h.lt, fun q hq => ?_, fun q => ?_, fun j u hu => ?_⟩
  · obtain ⟨x, hx⟩ := h.ex q hq
    obtain ⟨x, hx⟩ := cell?_setCell_some (p := ⟨g, k * 4, none⟩) (x := .int .i64 v.k) hx
    obtain ⟨x, hx⟩ := cell?_setCell_some (p := ⟨g, k * 4 + 1, none⟩) (x := .int .i64 v.n) hx
    obtain ⟨x, hx⟩ := cell?_setCell_some (p := ⟨g, k * 4 + 2, none⟩) (x := .float .f64 v.f) hx
    exact cell?_setCell_some (p := ⟨g, k * 4 + 3, none⟩) (x := .string v.s) hx
  · rw [World.frozen?_setCell, World.frozen?_setCell, World.frozen?_setCell, World.frozen?_setCell]; exact h.fz q
  · have hlt : g < ((((W.setCell ⟨g, k * 4, none⟩ (.int .i64 v.k)).setCell ⟨g, k * 4 + 1, none⟩ (.int .i64 v.n)).setCell ⟨g, k * 4 + 2, none⟩ (.float .f64 v.f)).setCell ⟨g, k * 4 + 3, none⟩ (.string v.s)).heap.size := by simpa using h.lt
    by_cases e : j < k
    · rw [List.getElem?_append_left (by omega)] at hu
      obtain ⟨_, r0, r1, r2, r3⟩ := h.row j u hu
      refine ⟨hlt, ?_, ?_, ?_, ?_⟩
      · rw [sc_other _ _ _ _ (ne _ _ (by omega)), sc_other _ _ _ _ (ne _ _ (by omega)), sc_other _ _ _ _ (ne _ _ (by omega)), sc_other _ _ _ _ (ne _ _ (by omega))]; exact r0
      · rw [sc_other _ _ _ _ (ne _ _ (by omega)), sc_other _ _ _ _ (ne _ _ (by omega)), sc_other _ _ _ _ (ne _ _ (by omega)), sc_other _ _ _ _ (ne _ _ (by omega))]; exact r1
      · rw [sc_other _ _ _ _ (ne _ _ (by omega)), sc_other _ _ _ _ (ne _ _ (by omega)), sc_other _ _ _ _ (ne _ _ (by omega)), sc_other _ _ _ _ (ne _ _ (by omega))]; exact r2
      · rw [sc_other _ _ _ _ (ne _ _ (by omega)), sc_other _ _ _ _ (ne _ _ (by omega)), sc_other _ _ _ _ (ne _ _ (by omega)), sc_other _ _ _ _ (ne _ _ (by omega))]; exact r3
    · have hj : j = k := by
        obtain ⟨q, _⟩ := List.getElem?_eq_some_iff.1 hu
        simp at q; omega
      subst hj
      rw [List.getElem?_append_right (by omega), hl, Nat.sub_self] at hu
      cases hu
      obtain ⟨x0, e0⟩ := h.ex (j * 4) (by omega)
      obtain ⟨x1, e1⟩ := h.ex (j * 4 + 1) (by omega)
      obtain ⟨x2, e2⟩ := h.ex (j * 4 + 2) (by omega)
      obtain ⟨x3, e3⟩ := h.ex (j * 4 + 3) (by omega)
      refine ⟨hlt, ?_, ?_, ?_, ?_⟩
      · rw [sc_other _ _ _ _ (ne _ _ (by omega)), sc_other _ _ _ _ (ne _ _ (by omega)), sc_other _ _ _ _ (ne _ _ (by omega))]; exact sc_same _ _ _ _ e0
      · rw [sc_other _ _ _ _ (ne _ _ (by omega)), sc_other _ _ _ _ (ne _ _ (by omega))]; exact sc_same _ _ _ _ (by rw [sc_other _ _ _ _ (ne _ _ (by omega))]; exact e1)
      · rw [sc_other _ _ _ _ (ne _ _ (by omega))]; exact sc_same _ _ _ _ (by rw [sc_other _ _ _ _ (ne _ _ (by omega)), sc_other _ _ _ _ (ne _ _ (by omega))]; exact e2)
      · exact sc_same _ _ _ _ (by rw [sc_other _ _ _ _ (ne _ _ (by omega)), sc_other _ _ _ _ (ne _ _ (by omega)), sc_other _ _ _ _ (ne _ _ (by omega))]; exact e3)
theorem padL_take : ∀ (k : Nat) (cs : List Col) (xs : List V), k ≤ cs.length → k ≤ xs.length → (padL cs xs).take k = xs.take k
  | 0, _, _, _, _ => by simp
  | k + 1, [], _, h, _ => by simp at h
  | k + 1, _ :: _, [], _, h => by simp at h
  | k + 1, c :: cs, x :: xs, h1, h2 => by simp [padL, padL_take k cs xs (by simpa using h1) (by simpa using h2)]
theorem row_of {size : Nat} {w' : World} {base g m : Nat} {e : TypeId} {l : List Value} (h : w'.ownsRow base e size (.slice (some ⟨g, 0, none⟩) m m) m l) :
    ∃ cur : Array Value, w'.heap[g]? = some (.cells cur e (0, 0)) ∧ cur.size = m * size := by
  obtain ⟨_, ⟨h0, _⟩ | ⟨g', cap, cur, h0, hg, hh, h1, h2, h3, h4⟩⟩ := h
  · cases h0
  · cases h0
    exact ⟨cur, hh, h3⟩
theorem below_setRow {B : Nat} {a w : World} (h : Below B a w) {g : Nat} (hg : B ≤ g) (cs : Array Value) : Below B a (w.setRow g cs) := ⟨h.os, h.tape, h.output, by simpa [World.setRow] using h.size, fun k hk => by rw [setRow_other _ _ _ _ (by omega)]; exact h.block k hk⟩
end Vl

end Go.Proofs.Ytaclkmhgbmencaa
