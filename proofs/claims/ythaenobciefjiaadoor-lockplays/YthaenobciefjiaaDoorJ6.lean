/- The statements' own check of the program; the law ModeTells. -/
import Derived.Test.YthaenobciefjiaaDoorJ5
namespace Go.Proofs.YthaenobciefjiaaDoor
open Go.RowKit

theorem Md.Tab.lt {w : World} (h : Md.Tab w) : 0 < w.heap.size := by
  rcases Nat.lt_or_ge 0 w.heap.size with c | c
  · exact c
  · have := h.c1
    simp [World.cell?, Array.getElem?_eq_none c] at this
theorem Md.Tab.below {w w' : World} (h : Md.Tab w) (hb : Below w.heap.size w w') : Md.Tab w' := by
  have e : ∀ i, w'.cell? ⟨0, i, none⟩ = w.cell? ⟨0, i, none⟩ := fun i => hb.cell h.lt
  exact ⟨(e _).trans h.c1, (e _).trans h.c2, (e _).trans h.c3, (e _).trans h.c4, (e _).trans h.c5, (e _).trans h.c6, (e _).trans h.c7, (e _).trans h.c8⟩

end Go.Proofs.YthaenobciefjiaaDoor
