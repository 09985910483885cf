/- Walk of value.Rows. -/
import Derived.Test.YtanljohnmaokeaaR1
import Derived.Test.YtanljohnmaokeaaD0
import Derived.Laws.CopyRow
namespace Go.Proofs.Ytanljohnmaokeaa
open Go.RowKit Go.Sort
namespace Vl

/-- The cells of values. -/
def cellsV : List V → List Value
  | [] => []
  | v :: l => .int .i64 v.k :: .int .i64 v.n :: .float .f64 v.f :: .string v.s :: cellsV l
theorem cellsV_length : ∀ l, (cellsV l).length = l.length * 4
  | [] => rfl
  | _ :: l => by simp [cellsV, cellsV_length l]; omega
theorem cellsV_one : ∀ l, ∀ v ∈ cellsV l, v.oneCell' = true
  | [], _, h => by cases h
  | _ :: l, v, h => by
    simp only [cellsV, List.mem_cons] at h
    rcases h with rfl | rfl | rfl | rfl | h
    · rfl
    · rfl
    · rfl
    · rfl
    · exact cellsV_one l v h
theorem cellsV_at : ∀ (l : List V) (j : Nat) (v : V), l[j]? = some v → (cellsV l)[j * 4]? = some (.int .i64 v.k) ∧ (cellsV l)[j * 4 + 1]? = some (.int .i64 v.n) ∧ (cellsV l)[j * 4 + 2]? = some (.float .f64 v.f) ∧ (cellsV l)[j * 4 + 3]? = some (.string v.s)
  | [], j, v, h => by simp at h
  | x :: l, 0, v, h => by simp at h; subst h; simp [cellsV]
  | x :: l, j + 1, v, h => by
    have ih := cellsV_at l j v (by simpa using h)
    rw [show (j + 1) * 4 = j * 4 + 4 from by omega, show j * 4 + 4 + 1 = (j * 4 + 1) + 4 from by omega, show j * 4 + 4 + 2 = (j * 4 + 2) + 4 from by omega, show j * 4 + 4 + 3 = (j * 4 + 3) + 4 from by omega]
    simpa [cellsV] using ih
theorem cellsV_from : ∀ (l : List V) (j : Nat) (c : Value), (cellsV l)[j]? = some c → ∃ i v, l[i]? = some v ∧ ((j = i * 4 ∧ c = .int .i64 v.k) ∨ (j = i * 4 + 1 ∧ c = .int .i64 v.n) ∨ (j = i * 4 + 2 ∧ c = .float .f64 v.f) ∨ (j = i * 4 + 3 ∧ c = .string v.s))
  | [], j, c, h => by simp [cellsV] at h
  | x :: l, 0, c, h => ⟨0, x, rfl, by simp [cellsV] at h; simp [h]⟩
  | x :: l, 1, c, h => ⟨0, x, rfl, by simp [cellsV] at h; simp [h]⟩
  | x :: l, 2, c, h => ⟨0, x, rfl, by simp [cellsV] at h; simp [h]⟩
  | x :: l, 3, c, h => ⟨0, x, rfl, by simp [cellsV] at h; simp [h]⟩
  | x :: l, j + 4, c, h => by
    obtain ⟨i, v, h1, h2⟩ := cellsV_from l j c (by simpa [cellsV] using h)
    refine ⟨i + 1, v, by simpa using h1, ?_⟩
    rcases h2 with h2 | h2 | h2 | h2
    · exact Or.inl ⟨by omega, h2.2⟩
    · exact Or.inr (Or.inl ⟨by omega, h2.2⟩)
    · exact Or.inr (Or.inr (Or.inl ⟨by omega, h2.2⟩))
    · exact Or.inr (Or.inr (Or.inr ⟨by omega, h2.2⟩))
/-- What lies there is the cells of the row. -/
theorem RowAt.cells {w : World} {b o : Nat} {xs : List V} (h : RowAt w b o xs) (j : Nat) (c : Value) (hc : (cellsV xs)[j]? = some c) : w.cell? ((⟨b, o, none⟩ : Addr).add j) = some c := by
  obtain ⟨i, v, h1, h2⟩ := cellsV_from xs j c hc
  obtain ⟨r0, r1, r2, r3⟩ := h i v h1
  rw [add_plain]
  rcases h2 with ⟨e, rfl⟩ | ⟨e, rfl⟩ | ⟨e, rfl⟩ | ⟨e, rfl⟩
  · rw [e]; exact r0
  · rw [e, show o + (i * 4 + 1) = o + i * 4 + 1 from by omega]; exact r1
  · rw [e, show o + (i * 4 + 2) = o + i * 4 + 2 from by omega]; exact r2
  · rw [e, show o + (i * 4 + 3) = o + i * 4 + 3 from by omega]; exact r3
theorem rowAt_block {w : World} {g : Nat} {xs : List V} {t : TypeId} {fr : Nat × Nat} (h : w.heap[g]? = some (.cells (cellsV xs).toArray t fr)) : RowAt w g 0 xs := fun j v hv => by
  obtain ⟨c0, c1, c2, c3⟩ := cellsV_at xs j v hv
  refine ⟨?_, ?_, ?_, ?_⟩
  · simp [World.cell?, h, c0]
  · simp [World.cell?, h, c1]
  · simp [World.cell?, h, c2]
  · simp [World.cell?, h, c3]

/-- A row that came in, by its slice: of no value it may lie nowhere. -/
def RowIn (w : World) (p : Option Addr) (xs : List V) : Prop := xs.length = 0 ∨ ∃ b o, p = some ⟨b, o, none⟩ ∧ b < w.heap.size ∧ RowAt w b o xs
theorem RowIn.below {w w' : World} {p : Option Addr} {xs : List V} (h : RowIn w p xs) (hB : Below w.heap.size w w') : RowIn w' p xs := by
  rcases h with h | ⟨b, o, h1, h2, h3⟩
  · exact Or.inl h
  · exact Or.inr ⟨b, o, h1, Nat.lt_of_lt_of_le h2 hB.size, h3.below h2 hB⟩
/-- Rows that came in. -/
def InAt (w : World) (B O : Nat) (rs : List (List V)) : Prop := ∀ i xs, rs[i]? = some xs → ∃ p c, w.cell? ⟨B, O + i, none⟩ = some (.slice p xs.length c) ∧ xs.length ≤ 100000 ∧ RowIn w p xs
theorem InAt.below {w w' : World} {B O : Nat} {rs : List (List V)} (h : InAt w B O rs) (hb : B < w.heap.size) (hB : Below w.heap.size w w') : InAt w' B O rs := fun i xs hi => by
  obtain ⟨p, c, h1, h2, h3⟩ := h i xs hi
  exact ⟨p, c, ((bcell hB).1 _ _ hb).trans h1, h2, h3.below hB⟩

/-- copy of a row into a row as long. -/
theorem copy_row {P : Program} (w : World) (dT sT ty elem : TypeId) (g n c : Nat) (p : Option Addr) (xs : List V) (cur : Array Value) (t : TypeId)
    (hu : P.underlying dT = some (.slice elem)) (hs : (P.info? elem).map (·.size) = some 4) (hg : w.heap[g]? = some (.cells cur t (0, 0))) (hn : xs.length = n) (hcur : cur.size = n * 4) (hx : RowIn w p xs) :
    (Builtin.copy_ #[dT, sT] ty #[.slice (some ⟨g, 0, none⟩) n n, .slice p n c]).run P w = .ok (goInt n) (w.setRow g (cellsV xs).toArray) := by
  cases hq : P.info? elem with
  | none => simp [hq] at hs
  | some i =>
    have hi : i.size = 4 := by simpa [hq] using hs
    rcases hx with h0 | ⟨b, o, rfl, hb, hr⟩
    · have hn0 : n = 0 := by omega
      subst hn0
      obtain rfl : xs = [] := List.length_eq_zero_iff.1 h0
      obtain rfl : cur = #[] := Array.size_eq_zero_iff.1 (by omega)
      have e : w.setRow g (cellsV []).toArray = w := setRow_self w g #[] t (0, 0) hg
      rw [e]
      cases p with
      | none => simp [Builtin.copy_, run_underlying hu, Builtin.lenOf, Builtin.firstCells, sizeOf, typeInfo, hq, storeCells]
      | some a => simp [Builtin.copy_, run_underlying hu, Builtin.lenOf, Builtin.firstCells, sizeOf, typeInfo, hq, storeCells, loadCells, loadCellsFrom]
    · have hl := run_loadCells_list (P := P) w ⟨b, o, none⟩ (cellsV xs) hr.cells
      have hst := run_storeCells_at P g 0 t (cellsV xs) 0 cur w hg (by rw [cellsV_length]; omega) (cellsV_one xs)
      have hrow : (cur.toList.take (0 + 0) ++ cellsV xs ++ cur.toList.drop (0 + 0 + (cellsV xs).length)).toArray = (cellsV xs).toArray := by
        rw [List.drop_of_length_le (by rw [cellsV_length]; simp; omega)]; simp
      rw [hrow] at hst
      rw [cellsV_length, hn] at hl
      simp [Builtin.copy_, run_underlying hu, Builtin.lenOf, Builtin.firstCells, sizeOf, typeInfo, hq, hi, hl, hst]

theorem sc_other (w : World) (p a : Addr) (v : Value) (h : p ≠ a) : (w.setCell p v).cell? a = w.cell? a := by apply World.cell?_setCell_other; exact h
theorem sc_same (w : World) (p : Addr) (v u : Value) (h : w.cell? p = some u) : (w.setCell p v).cell? p = some v := by apply World.cell?_setCell_same; exact h
/-- One row more, in a new block g. -/
theorem OutAt.step {w W1 : World} {blk g n : Nat} {rs : List (List V)} {k : Nat} {xs : List V} {curB cur : Array Value} {t : TypeId} (h : OutAt w blk (rs.take k)) (hB : Below w.heap.size w W1) (hg : g = w.heap.size) (hblk : blk < w.heap.size)
    (hrs : rs[k]? = some xs) (hcB : w.heap[blk]? = some (.cells curB t (0, 0))) (hcn : curB.size = n) (hk : k < n) (hcur : ∃ t', W1.heap[g]? = some (.cells cur t' (0, 0))) (hlen : xs.length ≤ 100000) :
    OutAt ((W1.setCell ⟨blk, k, none⟩ (.slice (some ⟨g, 0, none⟩) xs.length xs.length)).setRow g (cellsV xs).toArray) blk (rs.take (k + 1)) := by
  obtain ⟨t', hcur⟩ := hcur
  have hgb : g ≠ blk := by omega
  have hgs : g < W1.heap.size := by
    rcases Nat.lt_or_ge g W1.heap.size with c | c
    · exact c
    · rw [Array.getElem?_eq_none c] at hcur; cases hcur
  have hW1 : W1.heap[blk]? = some (.cells curB t (0, 0)) := by rw [hB.block blk hblk]; exact hcB
  have hcell : ∃ u, W1.cell? ⟨blk, k, none⟩ = some u := by
    refine ⟨curB[k]'(by omega), ?_⟩
    simp [World.cell?, hW1, Array.getElem?_eq_getElem (by omega : k < curB.size)]
  obtain ⟨u, hcell⟩ := hcell
  have hsz : ((W1.setCell ⟨blk, k, none⟩ (.slice (some ⟨g, 0, none⟩) xs.length xs.length)).setRow g (cellsV xs).toArray).heap.size = W1.heap.size := by simp [World.setRow]
  have hheap : (W1.setCell ⟨blk, k, none⟩ (.slice (some ⟨g, 0, none⟩) xs.length xs.length)).heap[g]? = some (.cells cur t' (0, 0)) := by
    rw [Below.heap_setCell _ _ _ g hgb]; exact hcur
  intro i ys hi
  by_cases e : i = k
  · subst e
    have hys : ys = xs := by
      rw [List.getElem?_take, if_pos (by omega), hrs] at hi
      exact (Option.some.inj hi).symm
    subst hys
    refine ⟨g, 0, ys.length, ?_, ?_, Nat.le_refl _, hlen, by rw [hsz]; exact hgs, hgb, rowAt_block (setRow_heap _ g cur _ t' _ hheap)⟩
    · rw [cell_setRow_other _ _ _ _ (Ne.symm hgb), sc_same _ _ _ _ hcell]
    · have e1 : ((W1.setCell ⟨blk, i, none⟩ (.slice (some ⟨g, 0, none⟩) ys.length ys.length)).setRow g (cellsV ys).toArray).frozen? ⟨blk, i, none⟩ = (W1.setCell ⟨blk, i, none⟩ (.slice (some ⟨g, 0, none⟩) ys.length ys.length)).frozen? ⟨blk, i, none⟩ := by
        simp only [World.frozen?]; rw [setRow_other _ _ _ _ (Ne.symm hgb)]
      rw [e1, World.frozen?_setCell]
      simp [World.frozen?, hW1]
  · have hik : i < k := by
      rw [List.getElem?_take] at hi
      split at hi
      · omega
      · cases hi
    have hi' : (rs.take k)[i]? = some ys := by
      rw [List.getElem?_take, if_pos hik]
      rw [List.getElem?_take, if_pos (by omega)] at hi
      exact hi
    obtain ⟨b, o, c, h1, h2, h3, h4, h5, h6, h7⟩ := h i ys hi'
    have hbg : b ≠ g := by omega
    have ec : ∀ j, ((W1.setCell ⟨blk, k, none⟩ (.slice (some ⟨g, 0, none⟩) xs.length xs.length)).setRow g (cellsV xs).toArray).cell? ⟨b, j, none⟩ = w.cell? ⟨b, j, none⟩ := fun j => by
      rw [cell_setRow_other _ _ _ _ hbg, sc_other _ _ _ _ (by intro e; injection e with e1; exact h6 e1.symm)]
      exact hB.cell (p := ⟨b, j, none⟩) h5
    refine ⟨b, o, c, ?_, ?_, h3, h4, by rw [hsz]; exact Nat.lt_of_lt_of_le h5 hB.size, h6, ?_⟩
    · rw [cell_setRow_other _ _ _ _ (Ne.symm hgb), sc_other _ _ _ _ (by intro e'; injection e' with _ e2; omega)]
      exact (hB.cell (p := ⟨blk, i, none⟩) hblk).trans h1
    · have e1 : ((W1.setCell ⟨blk, k, none⟩ (.slice (some ⟨g, 0, none⟩) xs.length xs.length)).setRow g (cellsV xs).toArray).frozen? ⟨blk, i, none⟩ = (W1.setCell ⟨blk, k, none⟩ (.slice (some ⟨g, 0, none⟩) xs.length xs.length)).frozen? ⟨blk, i, none⟩ := by
        simp only [World.frozen?]; rw [setRow_other _ _ _ _ (Ne.symm hgb)]
      rw [e1, World.frozen?_setCell]
      exact (hB.frozen (p := ⟨blk, i, none⟩) hblk).trans h2
    · intro j v hv
      obtain ⟨r0, r1, r2, r3⟩ := h7 j v hv
      exact ⟨(ec _).trans r0, (ec _).trans r1, (ec _).trans r2, (ec _).trans r3⟩

end Vl
end Go.Proofs.Ytanljohnmaokeaa
