/- What Fill answers; a column and a value that are held through a region. -/
import Derived.Test.YtaclkmhgbmencaaG1
import Derived.Test.YtaclkmhgbmencaaX2
namespace Go.Proofs.Ytaclkmhgbmencaa
open Go.RowKit
namespace Vl
theorem fill_many {cs : List Col} {xs : List V} (h : cs.length < xs.length) : fillL cs xs = [] ∧ fillE cs xs = 22 := by
  have e : fillE cs xs = 22 := by unfold fillE; rw [if_pos h]
  unfold fillL; rw [e]; exact ⟨rfl, rfl⟩
theorem fill_err {cs : List Col} {xs : List V} {e : Int} (h : ¬ cs.length < xs.length) (he : errL cs (padL cs xs) = e) (h0 : e ≠ 0) : fillL cs xs = [] ∧ fillE cs xs = e := by
  have e1 : fillE cs xs = e := by unfold fillE; rw [if_neg h, he]
  unfold fillL; rw [e1, if_neg h0]; exact ⟨rfl, rfl⟩
theorem fill_ok {cs : List Col} {xs : List V} (h : ¬ cs.length < xs.length) (he : errL cs (padL cs xs) = 0) : fillL cs xs = padL cs xs ∧ fillE cs xs = 0 := by
  have e1 : fillE cs xs = 0 := by unfold fillE; rw [if_neg h, he]
  unfold fillL; rw [e1, if_pos rfl]; exact ⟨rfl, rfl⟩
/-- A column and a value lie there. -/
def CVS (b1 o1 b2 o2 : Nat) (c : Col) (v : V) (W w' : World) : Prop := w'.cell? ⟨b1, o1, none⟩ = some (.string c.nm) ∧ w'.cell? ⟨b1, o1 + 1, none⟩ = some (.int .i64 c.k) ∧ w'.cell? ⟨b1, o1 + 2, none⟩ = some (.bool c.nn) ∧ w'.cell? ⟨b1, o1 + 3, none⟩ = some (.int .i64 c.d.k) ∧ w'.cell? ⟨b1, o1 + 4, none⟩ = some (.int .i64 c.d.n) ∧ w'.cell? ⟨b1, o1 + 5, none⟩ = some (.float .f64 c.d.f) ∧ w'.cell? ⟨b1, o1 + 6, none⟩ = some (.string c.d.s) ∧ w'.cell? ⟨b2, o2, none⟩ = some (.int .i64 v.k) ∧ w'.cell? ⟨b2, o2 + 1, none⟩ = some (.int .i64 v.n) ∧ w'.cell? ⟨b2, o2 + 2, none⟩ = some (.float .f64 v.f) ∧ w'.cell? ⟨b2, o2 + 3, none⟩ = some (.string v.s) ∧ b1 < w'.heap.size ∧ b2 < w'.heap.size ∧ Below W.heap.size W w'
theorem CVS.of {b1 o1 b2 o2 : Nat} {c : Col} {v : V} {W w' : World} (h : C7 w' b1 o1 c) (h2 : V4 w' b2 o2 v) (hb : Below W.heap.size W w') : CVS b1 o1 b2 o2 c v W w' := ⟨h.c0, h.c1, h.c2, h.c3, h.c4, h.c5, h.c6, h2.c0, h2.c1, h2.c2, h2.c3, h.lt, h2.lt, hb⟩
theorem CVS.parts {b1 o1 b2 o2 : Nat} {c : Col} {v : V} {W w' : World} (h : CVS b1 o1 b2 o2 c v W w') : C7 w' b1 o1 c ∧ V4 w' b2 o2 v ∧ Below W.heap.size W w' := by
  obtain ⟨h0, h1, h2, h3, h4, h5, h6, h7, h8, h9, h10, h11, h12, h13⟩ := h
  exact ⟨⟨h11, h0, h1, h2, h3, h4, h5, h6⟩, ⟨h12, h7, h8, h9, h10⟩, h13⟩
theorem CVS.drew {b1 o1 b2 o2 : Nat} {c : Col} {v : V} {W w' : World} (h : CVS b1 o1 b2 o2 c v W w') : CVS b1 o1 b2 o2 c v W w'.drew := by
  obtain ⟨h1, h2, h3⟩ := h.parts
  exact CVS.of h1.drew h2.drew (bdrewN h3 1)
theorem CVS.keep {b1 o1 b2 o2 : Nat} {c : Col} {v : V} {W w0 w1 : World} (hb : Below w0.heap.size w0 w1) (h : CVS b1 o1 b2 o2 c v W w0) : CVS b1 o1 b2 o2 c v W w1 := by
  obtain ⟨h1, h2, h3⟩ := h.parts
  exact CVS.of (h1.below hb) (h2.below hb) (btr h3 hb)
theorem CVS.b {b1 o1 b2 o2 : Nat} {c : Col} {v : V} {W w' : World} (h : CVS b1 o1 b2 o2 c v W w') : Below W.heap.size W w' := h.parts.2.2
end Vl

end Go.Proofs.Ytaclkmhgbmencaa
