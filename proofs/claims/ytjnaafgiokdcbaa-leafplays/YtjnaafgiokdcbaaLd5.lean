/- The reference's leaves in memory, for changes. -/
import Derived.Test.YtjnaafgiokdcbaaLd4
namespace Go.Proofs.Ytjnaafgiokdcbaa
open Go.RowKit
namespace Lf
/-- Head at p, row of one's own at r, keys anywhere but there. -/
structure Rm (w : World) (base p r c : Nat) (kf : Nat → Value) (s : S) : Prop where
  head : w.heap[p]? = some (.cells #[.slice (some ⟨r, 0, none⟩) s.pgs.length c, .int .i64 (s.fan : Int), .int .i64 ((s.last : Int) + 1)] 56 (0, 0))
  own : w.ownsRow base 59 4 (.slice (some ⟨r, 0, none⟩) s.pgs.length c) s.pgs.length (cellsL kf s.pgs)
  pr : p ≠ r
  lo : base ≤ p
  ks : ∀ P ∈ s.pgs, Mm.Own w base 9 (kf P.n) (strs P.ks) ∧ ∀ g, (kf P.n).ownBlock = some g → g ≠ p ∧ g ≠ r
/-- The blocks that are the reference's. -/
def Rb (p r : Nat) (kf : Nat → Value) (s : S) (b : Nat) : Prop := b = p ∨ b = r ∨ ∃ P ∈ s.pgs, (kf P.n).ownBlock = some b
/-- From world to world: nothing old has turned but two blocks. -/
structure Tc (p r : Nat) (w w' : World) : Prop where
  os : w'.os = w.os
  tape : w'.tape = w.tape
  output : w'.output = w.output
  size : w.heap.size ≤ w'.heap.size
  block : ∀ g, g < w.heap.size → g ≠ p → g ≠ r → w'.heap[g]? = w.heap[g]?
theorem Tc.of {p r : Nat} {w w' : World} (h : Below w.heap.size w w') : Tc p r w w' := ⟨h.os, h.tape, h.output, h.size, fun g hg _ _ => h.block g hg⟩
theorem Tc.below {p r : Nat} {w w1 w2 : World} (h : Below w.heap.size w w1) (k : Tc p r w1 w2) : Tc p r w w2 := ⟨k.os.trans h.os, k.tape.trans h.tape, k.output.trans h.output, Nat.le_trans h.size k.size, fun g hg h1 h2 => (k.block g (Nat.lt_of_lt_of_le hg h.size) h1 h2).trans (h.block g hg)⟩
theorem Tc.set {p r : Nat} {w w' : World} (H : Tc p r w w') {b : Nat} (hb : b = p ∨ b = r ∨ w.heap.size ≤ b) (i : Nat) (u : Value) : Tc p r w (w'.setCell ⟨b, i, none⟩ u) :=
  ⟨H.os, H.tape, H.output, by simpa using H.size, fun g hg h1 h2 => (heap_setCell_other w' _ g _ (by rcases hb with e | e | e <;> simp <;> omega)).trans (H.block g hg h1 h2)⟩
theorem Tc.drew {p r : Nat} {w w' : World} (H : Tc p r w w') : Tc p r w w'.drew := ⟨H.os, H.tape, H.output, H.size, H.block⟩
/-- All below what is the reference's stays. -/
theorem Tc.bel {p r h : Nat} {w w' : World} (H : Tc p r w w') (hp : h ≤ p) (hr : h ≤ r) (hh : h ≤ w.heap.size) : Below h w w' := ⟨H.os, H.tape, H.output, H.size, fun k hk => H.block k (by omega) (by omega) (by omega)⟩
theorem Rm.cells {w : World} {base p r c : Nat} {kf : Nat → Value} {s : S} (H : Rm w base p r c kf s) : ∃ cur, w.heap[r]? = some (.cells cur 59 (0, 0)) ∧ cur.size = c * 4 ∧ ∀ (j : Nat) v, (cellsL kf s.pgs)[j]? = some v → cur[j]? = some v := by
  obtain ⟨_, ⟨h1, _⟩ | ⟨g, cap, cur, e1, _, e3, _, _, e6, e7⟩⟩ := H.own
  · cases h1
  · injection e1 with e1 _ e2
    injection e1 with e1
    injection e1 with e1
    subst e1 e2
    refine ⟨cur, e3, e6, fun j v hj => ?_⟩
    rw [← e7, List.getElem?_take] at hj
    split at hj
    · rw [← hj, Array.getElem?_toList]
    · cases hj
theorem Rm.rd {w : World} {base p r c : Nat} {kf : Nat → Value} {s : S} (H : Rm w base p r c kf s) : Rd w p r c kf s := by
  obtain ⟨cur, h1, _, h2⟩ := H.cells
  refine ⟨Mm.cellOf H.head rfl, Mm.cellOf H.head rfl, Mm.cellOf H.head rfl, Mm.heapLt H.head, Mm.heapLt h1, fun i P hP => ?_, fun P hP => ?_⟩
  · obtain ⟨a0, a1, a2, a3⟩ := cellsL_at kf s.pgs i P hP
    exact ⟨Mm.cellOf h1 (h2 _ _ a0), Mm.cellOf h1 (h2 _ _ a1), Mm.cellOf h1 (h2 _ _ a2), Mm.cellOf h1 (h2 _ _ a3)⟩
  · obtain ⟨q, cq, e, _, h⟩ := own_sin (H.ks P hP).1
    exact ⟨q, cq, e, h⟩
theorem Rm.keep {w w' : World} {base p r c : Nat} {kf : Nat → Value} {s : S} (H : Rm w base p r c kf s) (hk : ∀ b, b < w.heap.size → Rb p r kf s b → w'.heap[b]? = w.heap[b]?) : Rm w' base p r c kf s := by
  obtain ⟨cur, h1, _, _⟩ := H.cells
  refine ⟨(hk p (Mm.heapLt H.head) (Or.inl rfl)).trans H.head, ?_, H.pr, H.lo, fun P hP => ⟨(H.ks P hP).1.keep (fun g hg => hk g ((H.ks P hP).1.lt hg).1 (Or.inr (Or.inr ⟨P, hP, hg⟩))), (H.ks P hP).2⟩⟩
  obtain ⟨h0, ⟨e1, _⟩ | ⟨g, cap, cur', e1, e2, e3, e4⟩⟩ := H.own
  · cases e1
  · refine ⟨h0, Or.inr ⟨g, cap, cur', e1, e2, (hk g (Mm.heapLt e3) (Or.inr (Or.inl ?_))).trans e3, e4⟩⟩
    injection e1 with e1
    injection e1 with e1
    injection e1 with e1
    exact e1.symm
theorem Rm.below {w w' : World} {base p r c : Nat} {kf : Nat → Value} {s : S} (H : Rm w base p r c kf s) (hb : Below w.heap.size w w') : Rm w' base p r c kf s := H.keep (fun b hlt _ => hb.block b hlt)
theorem Rm.row {w : World} {base p r c : Nat} {kf : Nat → Value} {s : S} (H : Rm w base p r c kf s) : r < w.heap.size ∧ base ≤ r := by
  obtain ⟨h0, ⟨e1, _⟩ | ⟨g, cap, cur', e1, e2, e3, e4⟩⟩ := H.own
  · cases e1
  · injection e1 with e1
    injection e1 with e1
    injection e1 with e1
    subst e1
    exact ⟨Mm.heapLt e3, e2⟩
theorem rm0 (w : World) (fan : Nat) : Rm (RW w fan) w.heap.size (w.heap.size + 1) w.heap.size 1 (fun _ => .slice none 0 0) (S0 fan) := by
  refine ⟨rw_head w fan, ?_, Nat.succ_ne_self _, Nat.le_succ _, ?_⟩
  · refine ⟨rfl, Or.inr ⟨w.heap.size, 1, _, rfl, Nat.le_refl _, rw_row w fan, Nat.le_refl _, by decide, rfl, by simp [cellsL, leafC, S0]⟩⟩
  · intro P hP
    have e : P = ⟨1, ⟨#[]⟩, []⟩ := List.mem_singleton.1 hP
    subst e
    exact ⟨Mm.Own.nil _ _ _, fun g h => nomatch h⟩
end Lf
end Go.Proofs.Ytjnaafgiokdcbaa
