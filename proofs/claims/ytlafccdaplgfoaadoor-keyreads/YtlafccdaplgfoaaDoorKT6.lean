/- The reference's Split. -/
import Derived.Test.YtlafccdaplgfoaaDoorKT5
namespace Go.Proofs.YtlafccdaplgfoaaDoor
open Go.RowKit
attribute [local go_sem] Fl.run_store_float
namespace Ky
open Vl
/-- An answer of five cells lies untouched. -/
structure St5 (w0 : World) (t : TypeId) (w : World) : Prop where
  c : w.heap[w0.heap.size]? = some (.cells #[.int .i64 0, .int .i64 0, .float .f64 0, .string ⟨#[]⟩, .int .i64 0] t)
  l : Below w0.heap.size w0 w
theorem St5.start (w0 : World) (t : TypeId) : St5 w0 t (w0.alloc (.cells #[.int .i64 0, .int .i64 0, .float .f64 0, .string ⟨#[]⟩, .int .i64 0] t)) :=
  ⟨by show (w0.heap.push _)[w0.heap.size]? = _; simp, Vl.bal (Below.refl _ _) _⟩
theorem St5.lt {w0 w : World} {t : TypeId} (h : St5 w0 t w) : w0.heap.size < w.heap.size := by
  rcases Nat.lt_or_ge w0.heap.size w.heap.size with c | c
  · exact c
  · have := h.c; rw [Array.getElem?_eq_none c] at this; cases this
theorem St5.step {w0 w w1 : World} {t : TypeId} (h : St5 w0 t w) (hb : Below w.heap.size w w1) : St5 w0 t w1 := ⟨(hb.block _ h.lt).trans h.c, Vl.btr h.l hb⟩
theorem St5.cells {w0 w : World} {t : TypeId} (h : St5 w0 t w) :
    (w.cell? ⟨w0.heap.size, 0, none⟩ = some (.int .i64 0) ∧ w.cell? ⟨w0.heap.size, 1, none⟩ = some (.int .i64 0) ∧ w.cell? ⟨w0.heap.size, 2, none⟩ = some (.float .f64 0) ∧ w.cell? ⟨w0.heap.size, 3, none⟩ = some (.string ⟨#[]⟩) ∧ w.cell? ⟨w0.heap.size, 4, none⟩ = some (.int .i64 0)) ∧
    (w.frozen? ⟨w0.heap.size, 0, none⟩ = false ∧ w.frozen? ⟨w0.heap.size, 1, none⟩ = false ∧ w.frozen? ⟨w0.heap.size, 2, none⟩ = false ∧ w.frozen? ⟨w0.heap.size, 3, none⟩ = false ∧ w.frozen? ⟨w0.heap.size, 4, none⟩ = false) := by
  simp [World.cell?, World.frozen?, h.c]
theorem St5.set {w0 w : World} {t : TypeId} (h : St5 w0 t w) (x0 x1 x2 x3 x4 : Value) (o : Obj) : Below w0.heap.size w0 ((((((w.setCell ⟨w0.heap.size, 0, none⟩ x0).setCell ⟨w0.heap.size, 1, none⟩ x1).setCell ⟨w0.heap.size, 2, none⟩ x2).setCell ⟨w0.heap.size, 3, none⟩ x3).setCell ⟨w0.heap.size, 4, none⟩ x4).alloc o) :=
  Vl.bal (((((h.l.setCell (Nat.le_refl _) _).setCell (Nat.le_refl _) _).setCell (Nat.le_refl _) _).setCell (Nat.le_refl _) _).setCell (Nat.le_refl _) _) _
end Ky

set_option maxRecDepth 100000 in
set_option maxHeartbeats 4000000 in
theorem refSplit_any (s : ByteArray) (w : World) (hs : s.size ≤ 50000) :
    Calls Tryd.prog 22 #[.string s] w fun e w' => ∃ o, e = .returned (Ky.gotT o) ∧ Ky.EntIs s.data.toList o ∧ Below w.heap.size w w' := by
  go_enter Tryd.func22, Tryd.ntmps22
  go_wp2_with fail
  refine (refRead_any s _ hs).mono ?_
  rintro e w1 ⟨o, rfl, ho, hb⟩
  have HS := Vl.hid ((Ky.St5.start w 42).step hb)
  have HO := Vl.hid ho
  clear hb ho
  obtain ⟨⟨c0, c1, c2, c3, c4⟩, f0, f1, f2, f3, f4⟩ := HS.out.cells
  have z1 := HS.out.lt
  cases o with
  | none =>
    have HE := Vl.hid (Ky.entIs_no HO.out)
    unfold Ky.rdT
    go_wp2_with fail
    refine bodyPost_ret (v := .tuple #[.agg #[.int .i64 0, .int .i64 0, .float .f64 0, .string ⟨#[]⟩, .int .i64 0], .int .i64 11]) (by simp [results, Tryd.results22, go_sem, *]) rfl ⟨none, rfl, HE.out, ?_⟩
    exact HS.out.set _ _ _ _ _ _
  | some p =>
    obtain ⟨v, z⟩ := p
    have hz := Ky.read_pos HO.out
    rw [← Ky.size_list] at hz
    have hz0 : ((z : Int) == 0) = false := by simp; omega
    have hzz : (z : Int) ≤ 50000 := by omega
    have hzp : (0 : Int) ≤ (z : Int) := by omega
    have hz2 : (z : Int) + 1 < (s.size : Int) ∨ (s.size : Int) ≤ (z : Int) + 1 := by omega
    unfold Ky.rdT
    dsimp only
    by_cases he : z + 2 = s.size
    · have hz1 : ((z : Int) + 2 != (s.size : Int)) = false := by rw [← he]; simp
      have HE := Vl.hid (Ky.entIs_yes HO.out he)
      have hX : ∀ w, (Instr.index 9 (.string s) (.int .i64 (z : Int))).run Tryd.prog w = .ok (.int .u8 (Vl.cAt s z : Int)) w := Vl.idx_str 9 Tryd.underlying9 s z (by omega)
      have hX2 : ∀ w, (Instr.index 9 (.string s) (.int .i64 ((z : Int) + 1))).run Tryd.prog w = .ok (.int .u8 (Vl.cAt s (z + 1) : Int)) w := Vl.idx_str 9 Tryd.underlying9 s (z + 1) (by omega)
      have h1 := Vl.cAt_lt s z
      have h2 := Vl.cAt_lt s (z + 1)
      have hi1 : (z : Int) < (s.size : Int) := by omega
      have hi2 : (z : Int) + 1 < (s.size : Int) := by omega
      clear he hz2
      generalize Vl.cAt s z = x at hX HE h1
      generalize Vl.cAt s (z + 1) = y at hX2 HE h2
      go_wp2_with fail
      go_region
      all_goals
        go_wp2_with fail
        refine bodyPost_ret (v := .tuple #[.agg #[.int .i64 v.k, .int .i64 v.n, .float .f64 v.f, .string v.s, .int .i64 ((x : Int) * 256 + (y : Int))], .int .i64 0]) (by simp [results, Tryd.results22, go_sem, *]) rfl ⟨some (v, x * 256 + y), by rw [show (x : Int) * 256 + (y : Int) = ((x * 256 + y : Nat) : Int) from by omega]; rfl, HE.out, ?_⟩
        exact Below.drew (HS.out.set _ _ _ _ _ _)
    · have hz1 : ((z : Int) + 2 != (s.size : Int)) = true := by simp; omega
      clear hz2
      have HE := Vl.hid (Ky.entIs_other HO.out (by rw [← Ky.size_list]; exact he))
      clear he
      go_wp2_with fail
      refine bodyPost_ret (v := .tuple #[.agg #[.int .i64 0, .int .i64 0, .float .f64 0, .string ⟨#[]⟩, .int .i64 0], .int .i64 11]) (by simp [results, Tryd.results22, go_sem, *]) rfl ⟨none, rfl, HE.out, ?_⟩
      exact HS.out.set _ _ _ _ _ _

end Go.Proofs.YtlafccdaplgfoaaDoor
