/- fits, alone. -/
import Derived.Test.YtaclkmhgbmencaaG2
namespace Go.Proofs.Ytaclkmhgbmencaa
open Go.RowKit
attribute [local go_sem] Fl.run_store_float

namespace Vl
theorem sc_other (w : World) (p a : Addr) (v : Value) (h : p ≠ a) : (w.setCell p v).cell? a = w.cell? a := by apply World.cell?_setCell_other; exact h
theorem sc_same (w : World) (p : Addr) (v u : Value) (h : w.cell? p = some u) : (w.setCell p v).cell? p = some v := by apply World.cell?_setCell_same; exact h
theorem C7.nn {w : World} {b : Nat} {c : Col} (h : C7 w b 0 c) (x : Bool) : C7 (w.setCell ⟨b, 2, none⟩ (.bool x)) b 0 ⟨c.nm, c.k, x, c.d⟩ := by
  have ne : ∀ i j : Nat, i ≠ j → (⟨b, i, none⟩ : Addr) ≠ ⟨b, j, none⟩ := fun i j h e => h (by injection e)
  obtain ⟨h0, h1, h2, h3, h4, h5, h6⟩ := h.box
  exact ⟨by simpa using h.lt, (sc_other _ _ _ _ (ne _ _ (by decide))).trans h0, (sc_other _ _ _ _ (ne _ _ (by decide))).trans h1, sc_same _ _ _ _ h2, (sc_other _ _ _ _ (ne _ _ (by decide))).trans h3, (sc_other _ _ _ _ (ne _ _ (by decide))).trans h4, (sc_other _ _ _ _ (ne _ _ (by decide))).trans h5, (sc_other _ _ _ _ (ne _ _ (by decide))).trans h6⟩
/-- Is a column's Default one? -/
def fitB (c : Col) : Bool := goodB c.d.k c.d.n c.d.f c.d.s && (c.d.k == 0 || c.d.k == c.k)
theorem fit_takes (c : Col) : (takesE ⟨c.nm, c.k, false, c.d⟩ c.d == 0) = fitB c := by
  unfold takesE fitB
  cases goodB c.d.k c.d.n c.d.f c.d.s
  · rfl
  · by_cases h0 : c.d.k = 0
    · simp [h0]
    · by_cases h1 : c.d.k = c.k
      · simp [h1]
      · simp [h0, h1]
theorem colB_eq (c : Col) : colB c = (nameB c.nm && decide (1 ≤ c.k) && decide (c.k ≤ 4) && fitB c) := by unfold colB fitB; simp [Bool.and_assoc]
end Vl

set_option maxRecDepth 100000 in
set_option maxHeartbeats 2000000 in
theorem fits_any (c : Vl.Col) (w : World) :
    Calls Try.prog 36 #[.agg #[.string c.nm, .int .i64 c.k, .bool c.nn, .int .i64 c.d.k, .int .i64 c.d.n, .float .f64 c.d.f, .string c.d.s]] w fun e w' => e = .returned (.bool (Vl.fitB c)) ∧ Below w.heap.size w w' := by
  go_enter Try.func36, Try.ntmps36
  go_wp2_with fail
  refine (takes_any ⟨c.nm, c.k, false, c.d⟩ c.d _).mono ?_
  rintro e w1 ⟨rfl, hb⟩
  have HB : Hid (Below w.heap.size w w1) := Vl.hid (Vl.btr (Vl.bal (Below.refl _ _) _) hb)
  clear hb
  go_wp2_with fail
  go_ret
  exact ⟨by rw [Vl.fit_takes]; rfl, HB.out⟩

set_option maxRecDepth 100000 in
set_option maxHeartbeats 2000000 in
theorem alone_any (c : Vl.Col) (w : World) :
    Calls Try.prog 29 #[.agg #[.string c.nm, .int .i64 c.k, .bool c.nn, .int .i64 c.d.k, .int .i64 c.d.n, .float .f64 c.d.f, .string c.d.s]] w fun e w' => e = .returned (.bool (Vl.colB c)) ∧ Below w.heap.size w w' := by
  have HE := Vl.hid (Vl.colB_eq c)
  cases h1 : Vl.nameB c.nm <;> cases h2 : decide (1 ≤ c.k) <;> cases h3 : decide (c.k ≤ 4)
  all_goals
    rw [h1, h2, h3] at HE
    go_enter Try.func29, Try.ntmps29
    go_wp2_with (first | (go_at_call 35; refine (name_any _ _).mono ?_; rintro e w' ⟨rfl, hq⟩; obtain rfl := hq.symm; rw [h1]) | (go_at_call 36; refine (fits_any c _).mono ?_; rintro e w' ⟨rfl, hb⟩))
    go_ret
    first
    | exact ⟨by rw [HE.out]; rfl, Vl.bal (Below.refl _ _) _⟩
    | exact ⟨by rw [HE.out]; rfl, Vl.btr (Vl.bal (Below.refl _ _) _) hb⟩

end Go.Proofs.Ytaclkmhgbmencaa
