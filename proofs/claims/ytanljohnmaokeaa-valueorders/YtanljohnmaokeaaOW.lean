/- Rows in memory of one's own. -/
import Derived.Test.YtanljohnmaokeaaR3
import Derived.Laws.AppendOwnNone
namespace Go.Proofs.Ytanljohnmaokeaa
open Go.RowKit
namespace Vl
theorem cellsV_app : ∀ (a b : List V), cellsV (a ++ b) = cellsV a ++ cellsV b
  | [], _ => rfl
  | x :: a, b => by simp [cellsV, cellsV_app a b]
theorem own_below {w w2 : World} {base size n : Nat} {e : TypeId} {v : Value} {xs : List Value} (h : w.ownsRow base e size v n xs) (hb : Below w.heap.size w w2) : w2.ownsRow base e size v n xs := by
  obtain ⟨h0, h1 | ⟨g, cap, cur, e1, e2, e3, e4⟩⟩ := h
  · exact ⟨h0, Or.inl h1⟩
  · have hl : g < w.heap.size := by
      rcases Nat.lt_or_ge g w.heap.size with c | c
      · exact c
      · rw [Array.getElem?_eq_none c] at e3; cases e3
    exact ⟨h0, Or.inr ⟨g, cap, cur, e1, e2, by rw [hb.block g hl]; exact e3, e4⟩⟩
theorem own_row {w : World} {base n : Nat} {e : TypeId} {v : Value} {ys : List V} (h : w.ownsRow base e 4 v n (cellsV ys)) : ∃ p c, v = .slice p n c ∧ ys.length = n ∧ n ≤ c ∧ RowIn w p ys := by
  obtain ⟨h0, ⟨e1, e2⟩ | ⟨g, cap, cur, e1, e2, e3, e4, e5, e6, e7⟩⟩ := h
  · rw [cellsV_length] at h0
    exact ⟨none, 0, by rw [e1, e2], by omega, by omega, Or.inl (by omega)⟩
  · rw [cellsV_length] at h0
    have hl : g < w.heap.size := by
      rcases Nat.lt_or_ge g w.heap.size with c | c
      · exact c
      · rw [Array.getElem?_eq_none c] at e3; cases e3
    refine ⟨_, cap, e1, by omega, e4, Or.inr ⟨g, 0, rfl, hl, fun j v hv => ?_⟩⟩
    have hj : j < ys.length := (List.getElem?_eq_some_iff.1 hv).1
    obtain ⟨c0, c1, c2, c3⟩ := cellsV_at ys j v hv
    have hc : ∀ q, q < n * 4 → w.cell? ⟨g, q, none⟩ = (cellsV ys)[q]? := fun q hq => by
      rw [← e7, List.getElem?_take_of_lt hq]
      simp [World.cell?, e3]
    rw [Nat.zero_add]
    exact ⟨(hc _ (by omega)).trans c0, (hc _ (by omega)).trans c1, (hc _ (by omega)).trans c2, (hc _ (by omega)).trans c3⟩
end Vl

theorem Vl.RowIn.cells {w : World} {a : Addr} {xs : List Vl.V} (h : Vl.RowIn w (some a) xs) (j : Nat) (u : Value) (hj : (Vl.cellsV xs)[j]? = some u) : w.cell? (a.add j) = some u := by
  rcases h with h | ⟨b, o, e, _, hr⟩
  · rw [List.length_eq_zero_iff.1 h] at hj; simp [Vl.cellsV] at hj
  · cases e
    exact hr.cells j u hj

end Go.Proofs.Ytanljohnmaokeaa
