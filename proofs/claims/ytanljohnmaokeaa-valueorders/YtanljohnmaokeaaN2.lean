/- The statements' comparison of rows, bit for bit. -/
import Derived.Test.YtanljohnmaokeaaR2
import Derived.Test.YtanljohnmaokeaaX2
import Derived.Deep.RegionHeld3
namespace Go.Proofs.Ytanljohnmaokeaa
open Go.RowKit
attribute [local go_sem] Fl.run_store_float Try.float64bits Try.float64frombits

theorem Vl.RowIn.at' {w : World} {p : Option Addr} {xs : List Vl.V} {k : Nat} {v : Vl.V} (h : Vl.RowIn w p xs) (hv : xs[k]? = some v) : ∃ b o, p = some ⟨b, o, none⟩ ∧ b < w.heap.size ∧ Vl.RowAt w b o xs := by
  rcases h with h | h
  · obtain ⟨g, _⟩ := List.getElem?_eq_some_iff.1 hv; omega
  · exact h
/-- Two values lie there. -/
def Vl.TwoS (b1 o1 b2 o2 : Nat) (v : Vl.V) (W w' : World) : Prop :=
  w'.cell? ⟨b1, o1, none⟩ = some (.int .i64 v.k) ∧ w'.cell? ⟨b1, o1 + 1, none⟩ = some (.int .i64 v.n) ∧ w'.cell? ⟨b1, o1 + 2, none⟩ = some (.float .f64 v.f) ∧ w'.cell? ⟨b1, o1 + 3, none⟩ = some (.string v.s) ∧
  w'.cell? ⟨b2, o2, none⟩ = some (.int .i64 v.k) ∧ w'.cell? ⟨b2, o2 + 1, none⟩ = some (.int .i64 v.n) ∧ w'.cell? ⟨b2, o2 + 2, none⟩ = some (.float .f64 v.f) ∧ w'.cell? ⟨b2, o2 + 3, none⟩ = some (.string v.s) ∧
  b1 < w'.heap.size ∧ b2 < w'.heap.size ∧ Below W.heap.size W w'
theorem Vl.twoDrew {b1 o1 b2 o2 : Nat} {v : Vl.V} {W w' : World} (h : Vl.TwoS b1 o1 b2 o2 v W w') : Vl.TwoS b1 o1 b2 o2 v W w'.drew := by
  obtain ⟨h0, h1, h2, h3, h4, h5, h6, h7, h8, h9, h10⟩ := h
  exact ⟨h0, h1, h2, h3, h4, h5, h6, h7, h8, h9, Vl.bdrewN h10 1⟩
theorem Vl.twoKeep {b1 o1 b2 o2 : Nat} {v : Vl.V} {W w0 w1 : World} (hb : Below w0.heap.size w0 w1) (h : Vl.TwoS b1 o1 b2 o2 v W w0) : Vl.TwoS b1 o1 b2 o2 v W w1 := by
  obtain ⟨h0, h1, h2, h3, h4, h5, h6, h7, h8, h9, h10⟩ := h
  have hm := (Vl.bcell hb).1
  refine ⟨?_, ?_, ?_, ?_, ?_, ?_, ?_, ?_, Nat.lt_of_lt_of_le h8 hb.size, Nat.lt_of_lt_of_le h9 hb.size, Vl.btr h10 hb⟩
  · rw [hm _ _ h8]; exact h0
  · rw [hm _ _ h8]; exact h1
  · rw [hm _ _ h8]; exact h2
  · rw [hm _ _ h8]; exact h3
  · rw [hm _ _ h9]; exact h4
  · rw [hm _ _ h9]; exact h5
  · rw [hm _ _ h9]; exact h6
  · rw [hm _ _ h9]; exact h7
theorem Vl.twoB {b1 o1 b2 o2 : Nat} {v : Vl.V} {W w' : World} (h : Vl.TwoS b1 o1 b2 o2 v W w') : Below W.heap.size W w' := h.2.2.2.2.2.2.2.2.2.2

set_option maxRecDepth 100000 in
set_option maxHeartbeats 2000000 in
theorem keepValues_same (p1 p2 : Option Addr) (n c1 c2 : Nat) (xs : List Vl.V) (w : World) (hx : xs.length = n) (hn : n ≤ 100000) (hn1 : n ≤ c1) (hn2 : n ≤ c2) (H1 : Hid (Vl.RowIn w p1 xs)) (H2 : Hid (Vl.RowIn w p2 xs)) :
    Calls Try.prog 28 #[.slice p1 n c1, .slice p2 n c2] w fun e w' => e = .returned (.bool true) ∧ Below w.heap.size w w' := by
  have HX := Vl.hid hx
  clear hx
  go_enter Try.func28, Try.ntmps28
  go_wp2_with fail
  go_loopw [5] (fun vi wr => ∃ k : Nat, k ≤ n ∧ vi = .int .i64 (k : Int) ∧ Hid (Below w.heap.size w wr)) (fun vi _ => n - (RowKit.intOf vi).toNat)
  case atStart => exact ⟨0, by omega, rfl, Below.refl _ _⟩
  case round =>
    obtain ⟨k, hk1, rfl, HB⟩ := hrel
    rename World => wr
    by_cases hlt : k < n
    · obtain ⟨v, hv⟩ : ∃ v, xs[k]? = some v := ⟨xs[k]'(by rw [HX.out]; exact hlt), List.getElem?_eq_getElem _⟩
      obtain ⟨b1, o1, hp1, hb1, hr1⟩ := H1.out.at' hv
      obtain ⟨b2, o2, hp2, hb2, hr2⟩ := H2.out.at' hv
      obtain ⟨p0, p1, p2, p3⟩ := hr1.below hb1 HB.out k v hv
      obtain ⟨q0, q1, q2, q3⟩ := hr2.below hb2 HB.out k v hv
      have HS : Hid (Vl.TwoS b1 (o1 + k * 4) b2 (o2 + k * 4) v wr wr) := Vl.hid ⟨p0, p1, p2, p3, q0, q1, q2, q3, Nat.lt_of_lt_of_le hb1 HB.out.size, Nat.lt_of_lt_of_le hb2 HB.out.size, Below.refl _ _⟩
      clear hr1 hr2 hv p0 p1 p2 p3 q0 q1 q2 q3
      subst hp1 hp2
      go_wp2_with fail
      go_region_held3 (fun w' =>
        w'.cell? ⟨b1, o1 + k * 4, none⟩ = some (.int .i64 v.k) ∧ w'.cell? ⟨b1, o1 + k * 4 + 1, none⟩ = some (.int .i64 v.n) ∧ w'.cell? ⟨b1, o1 + k * 4 + 2, none⟩ = some (.float .f64 v.f) ∧ w'.cell? ⟨b1, o1 + k * 4 + 3, none⟩ = some (.string v.s) ∧
        w'.cell? ⟨b2, o2 + k * 4, none⟩ = some (.int .i64 v.k) ∧ w'.cell? ⟨b2, o2 + k * 4 + 1, none⟩ = some (.int .i64 v.n) ∧ w'.cell? ⟨b2, o2 + k * 4 + 2, none⟩ = some (.float .f64 v.f) ∧ w'.cell? ⟨b2, o2 + k * 4 + 3, none⟩ = some (.string v.s) ∧
        b1 < w'.heap.size ∧ b2 < w'.heap.size ∧ Below wr.heap.size wr w')
        (first | exact Vl.twoDrew HS.out | exact Vl.twoKeep hb (by assumption))
        (first | (go_at_call 22; refine (keepValue_same v _).mono ?_; rintro e w' ⟨rfl, hb⟩))
      go_wp2_with fail
      exact ⟨⟨k + 1, by omega, by go_num, Vl.btr HB.out (Vl.twoB (b1 := b1) (b2 := b2) (v := v) (by assumption))⟩, by simp [RowKit.intOf]; omega⟩
    · obtain rfl : k = n := by omega
      go_wp2_with fail
      go_ret
      exact ⟨rfl, HB.out⟩

end Go.Proofs.Ytanljohnmaokeaa
