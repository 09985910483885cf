/- What a change of the reference leaves. -/
import Derived.Test.YtjnaafgiokdcbaaLd8
namespace Go.Proofs.Ytjnaafgiokdcbaa
open Go.RowKit
namespace Lf
def Out (w : World) (base p r : Nat) (kf : Nat → Value) (s : S) (w' : World) (s' : S) : Prop := ∃ r' c' kf', Rm w' base p r' c' kf' s' ∧ Tc p r w w' ∧ ∀ b, Rb p r' kf' s' b → Rb p r kf s b ∨ w.heap.size ≤ b
theorem Rb.lt {w : World} {base p r c : Nat} {kf : Nat → Value} {s : S} (H : Rm w base p r c kf s) {b : Nat} (h : Rb p r kf s b) : b < w.heap.size := by
  rcases h with h | h | ⟨P, hP, h⟩
  · rw [h]; exact Mm.heapLt H.head
  · rw [h]; exact H.row.1
  · exact ((H.ks P hP).1.lt h).1
theorem set4 {w : World} {B : Nat} {x0 x1 x2 x3 y0 y1 y2 y3 : Value} {t : TypeId} (h : w.heap[B]? = some (.cells #[x0, x1, x2, x3] t (0, 0))) : ((((w.setCell ⟨B, 0, none⟩ y0).setCell ⟨B, 1, none⟩ y1).setCell ⟨B, 2, none⟩ y2).setCell ⟨B, 3, none⟩ y3).heap[B]? = some (.cells #[y0, y1, y2, y3] t (0, 0)) := by
  have h1 := heap_setCell_same w B 0 _ t y0 h
  have h2 := heap_setCell_same _ B 1 _ t y1 h1
  have h3 := heap_setCell_same _ B 2 _ t y2 h2
  exact heap_setCell_same _ B 3 _ t y3 h3
theorem Out.fin {w w8 : World} {base p r c r' c' : Nat} {kf kf' : Nat → Value} {s s' : S} (H : Rm w base p r c kf s) (HR : Rm w8 base p r' c' kf' s') (HT : Tc p r w w8) (hb : ∀ b, Rb p r' kf' s' b → Rb p r kf s b ∨ w.heap.size < b) (y0 y1 y2 y3 : Value) :
    Out w base p r kf s ((((w8.setCell ⟨w.heap.size, 0, none⟩ y0).setCell ⟨w.heap.size, 1, none⟩ y1).setCell ⟨w.heap.size, 2, none⟩ y2).setCell ⟨w.heap.size, 3, none⟩ y3) s' := by
  refine ⟨r', c', kf', HR.keep (fun b _ h => ?_), (((HT.set (Or.inr (Or.inr (Nat.le_refl _))) _ _).set (Or.inr (Or.inr (Nat.le_refl _))) _ _).set (Or.inr (Or.inr (Nat.le_refl _))) _ _).set (Or.inr (Or.inr (Nat.le_refl _))) _ _, fun b h => (hb b h).imp id Nat.le_of_lt⟩
  have hne : b ≠ w.heap.size := by
    rcases hb b h with h1 | h1
    · exact Nat.ne_of_lt (h1.lt H)
    · exact Nat.ne_of_gt h1
  exact (heap_setCell_other _ _ _ _ hne).trans ((heap_setCell_other _ _ _ _ hne).trans ((heap_setCell_other _ _ _ _ hne).trans (heap_setCell_other _ _ _ _ hne)))
theorem fresh9 {w wx : World} {b d : Nat} {o : Obj} {t : TypeId} {v : Value} {cs : List Value} (h1 : wx.heap[d]? = some o) (h2 : Mm.Own wx b t v cs) (h3 : b ≤ d) (h4 : Below b w wx) : wx.heap[d]? = some o ∧ Mm.Own wx b t v cs ∧ Below b w wx ∧ b ≤ d := ⟨h1, h2, h4, h3⟩
theorem half_num {hh n : Nat} (h : hh = (n + 1) / 2) (hn : n ≤ 65) : wrap64 ((wrap64 ((n : Int) + 1)).tdiv 2) = (hh : Int) := by
  have e : wrap64 ((n : Int) + 1) = (n : Int) + 1 := by unfold wrap64; omega
  rw [e, Int.tdiv_eq_ediv_of_nonneg (by omega)]
  unfold wrap64
  omega
theorem next_num {n : Nat} (h : n ≤ 100000) : wrap64 ((n : Int) + 1 + 1) = ((n + 1 : Nat) : Int) + 1 := by
  unfold wrap64
  omega
end Lf
end Go.Proofs.Ytjnaafgiokdcbaa
