/- ValueOrders' walk, in the form that the row wants. -/
import Derived.Test.YtanljohnmaokeaaOrdersLaw2
import Derived.Test.YtanljohnmaokeaaOpenRs
namespace Go.Proofs.Ytanljohnmaokeaa
open Go.ChangeShapes Go.WideShapes Go.ChangeAt Go.RowKit

/-- Numbers that came in, read as plain data. -/
theorem open_nums {H : Type} {enc : TypeId × Value → H} {W : World} {a : Option Addr} {l c : Nat} {d : DataW H} {p : List MemPlace} (h : DataW.Trod enc Try.prog W 0 (fun _ => true) true 57 (.slice a l c) d p) :
    l ≤ c ∧ Vl.IntsIn W a l := by
  have k1 : Try.prog.cellsOf 3 = 1 := by kernel_rfl
  obtain ⟨fuel, hf⟩ := h
  rcases open_ints Try.underlying57 Try.underlying3 k1 hf with ⟨hcs, _⟩ | ⟨x, l', c', zs, hcs, _, hl, _, hz, _, hx, _⟩
  · simp [Value.cells] at hcs
    obtain ⟨rfl, rfl, rfl⟩ := hcs
    exact ⟨Nat.le_refl _, Or.inl rfl⟩
  · simp [Value.cells] at hcs
    obtain ⟨rfl, rfl, rfl⟩ := hcs
    rw [if_pos rfl] at hz
    refine ⟨hl, ?_⟩
    rcases Nat.eq_zero_or_pos l with h0 | h0
    · exact Or.inl h0
    · have hz' : W.cell? x = some (.int .i64 (zs.getD 0 0)) := hx 0 (by omega)
      obtain ⟨hs, hb⟩ := Vl.spot_none hz'
      refine Or.inr ⟨x.block, x.off, by rw [← hs], hb, fun i hi => ⟨zs.getD i 0, ?_⟩⟩
      have := hx i (by omega)
      rw [hs, Vl.add_plain] at this
      exact this

theorem orders_row (p : Option Addr) (n c : Nat) (rs : List (List Vl.V)) (pt : Option Addr) (nt ct : Nat) (w : World) (h : Vl.Rows1 w p n c rs) (ht : nt ≤ ct ∧ Vl.IntsIn w pt nt) :
    Calls Try.prog 8 #[.slice p n c, .slice pt nt ct] w fun e w' => e = .returned (.bool true) ∧ Below w.heap.size w w' :=
  orders_any p pt n c nt ct rs w h.len h.le ht.1 (Vl.hid h.row) (Vl.hid ht.2)

end Go.Proofs.Ytanljohnmaokeaa
