/- The statements' own check of the program; the law ModeTells. -/
import Derived.Test.YtgobfcdnjjbddaaDoorJ5
namespace Go.Proofs.YtgobfcdnjjbddaaDoor
open Go.RowKit

theorem Md.Tab.lt {w : World} (h : Md.Tab w) : 0 < w.heap.size := by
  rcases Nat.lt_or_ge 0 w.heap.size with c | c
  · exact c
  · have := h.c1
    simp [World.cell?, Array.getElem?_eq_none c] at this
theorem Md.Tab.below {w w' : World} (h : Md.Tab w) (hb : Below w.heap.size w w') : Md.Tab w' := by
  have e : ∀ i, w'.cell? ⟨0, i, none⟩ = w.cell? ⟨0, i, none⟩ := fun i => hb.cell h.lt
  exact ⟨(e _).trans h.c1, (e _).trans h.c2, (e _).trans h.c3, (e _).trans h.c4, (e _).trans h.c5, (e _).trans h.c6, (e _).trans h.c7, (e _).trans h.c8⟩

set_option maxHeartbeats 1000000 in
theorem wakes_any (w : World) (hT : Md.Tab w) :
    Calls Tryd.prog 16 #[] w fun e w' => e = .returned (.bool true) ∧ w' = w := by
  have e1 : Md.barsB 3 5 = true := by decide +kernel
  have e2 : Md.barsB 3 3 = false := by decide +kernel
  have e3 : Md.nameS 8 = ⟨#[97, 99, 99, 101, 115, 115, 95, 101, 120, 99, 108, 117, 115, 105, 118, 101]⟩ := by decide +kernel
  have e4 : Md.withI 1 = 256 := by decide +kernel
  have e5 : Md.ofI 4 = 3 := by decide +kernel
  have e6 : Md.anyB 2 8 = true := by decide +kernel
  go_enter Tryd.func16, Tryd.ntmps16
  go_wp2_with (first | (go_at_call 6; refine (bars_any _ _ _ hT).mono ?_; rintro e w' ⟨rfl, rfl⟩; first | rw [e1] | rw [e2]) | (go_at_call 12; refine (name_any _ _).mono ?_; rintro e w' ⟨rfl, rfl⟩; rw [e3]) | (go_at_call 8; refine (with_any _ _ hT).mono ?_; rintro e w' ⟨rfl, rfl⟩; rw [e4]) | (go_at_call 14; refine (of_any _ _).mono ?_; rintro e w' ⟨rfl, rfl⟩; rw [e5]) | (go_at_call 10; refine (any_any _ _ _ hT).mono ?_; rintro e w' ⟨rfl, rfl⟩; rw [e6]))
  go_ret
  exact ⟨rfl, rfl⟩

end Go.Proofs.YtgobfcdnjjbddaaDoor
