/- A log of transactions in memory. -/
import Derived.Test.YtoobljkjhpkghaaCa1
namespace Go.Proofs.Ytoobljkjhpkghaa
open Go.RowKit

namespace Mm
theorem scOther (w : World) (p a : Addr) (v : Value) (h : p ≠ a) : (w.setCell p v).cell? a = w.cell? a := by apply World.cell?_setCell_other; exact h
/-- A transaction's four cells, from a place on. -/
def Four (cs : Array Value) (o : Nat) (t : Cg.Tx) : Prop := cs[o]? = some (.int .i64 (t.st : Int)) ∧ cs[o + 1]? = some (.int .i64 (t.csn : Int)) ∧ cs[o + 2]? = some (.int .i64 (t.snap : Int)) ∧ cs[o + 3]? = some (.bool t.rd)
/-- A log's cells. -/
structure Cells (cs : Array Value) (s : Cg.S) : Prop where
  size : cs.size = 806
  tx : ∀ i, i ≤ 200 → Four cs (i * 4) (s.f i)
  n : cs[804]? = some (.int .i64 (s.n : Int))
  clk : cs[805]? = some (.int .i64 (s.clk : Int))
/-- A log. -/
def Lg (w : World) (p : Nat) (s : Cg.S) : Prop := ∃ cs, w.heap[p]? = some (.cells cs 91 (0, 0)) ∧ Cells cs s
theorem Lg.lt {w : World} {p : Nat} {s : Cg.S} (h : Lg w p s) : p < w.heap.size := by obtain ⟨cs, h1, _⟩ := h; exact heapLt h1
theorem Lg.fr {w : World} {p : Nat} {s : Cg.S} (h : Lg w p s) (q : Nat) : w.frozen? ⟨p, q, none⟩ = false := by obtain ⟨cs, h1, _⟩ := h; simp [World.frozen?, h1]
theorem Lg.keep {w w' : World} {p : Nat} {s : Cg.S} (h : Lg w p s) (hk : w'.heap[p]? = w.heap[p]?) : Lg w' p s := by obtain ⟨cs, h1, h2⟩ := h; exact ⟨cs, hk.trans h1, h2⟩
theorem Lg.below {w w' : World} {p : Nat} {s : Cg.S} (h : Lg w p s) (hb : Below w.heap.size w w') : Lg w' p s := h.keep (hb.block _ h.lt)
theorem Lg.nAt {w : World} {p : Nat} {s : Cg.S} (h : Lg w p s) : w.cell? ⟨p, 804, none⟩ = some (.int .i64 (s.n : Int)) := by obtain ⟨cs, h1, h2⟩ := h; exact cellOf h1 h2.n
theorem Lg.clkAt {w : World} {p : Nat} {s : Cg.S} (h : Lg w p s) : w.cell? ⟨p, 805, none⟩ = some (.int .i64 (s.clk : Int)) := by obtain ⟨cs, h1, h2⟩ := h; exact cellOf h1 h2.clk
theorem Lg.at {w : World} {p : Nat} {s : Cg.S} (h : Lg w p s) {i : Nat} (hi : i ≤ 200) : w.cell? ⟨p, i * 4, none⟩ = some (.int .i64 ((s.f i).st : Int)) ∧ w.cell? ⟨p, i * 4 + 1, none⟩ = some (.int .i64 ((s.f i).csn : Int)) ∧ w.cell? ⟨p, i * 4 + 2, none⟩ = some (.int .i64 ((s.f i).snap : Int)) ∧ w.cell? ⟨p, i * 4 + 3, none⟩ = some (.bool (s.f i).rd) := by
  obtain ⟨cs, h1, h2⟩ := h
  obtain ⟨a, b, c, d⟩ := h2.tx i hi
  exact ⟨cellOf h1 a, cellOf h1 b, cellOf h1 c, cellOf h1 d⟩
end Mm
end Go.Proofs.Ytoobljkjhpkghaa
