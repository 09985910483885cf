/- LargeRows and the comparison of lists of rows, bit for bit. -/
import Derived.Test.YtanljohnmaokeaaN1
import Derived.Test.YtanljohnmaokeaaN2
import Derived.Test.YtanljohnmaokeaaO1
namespace Go.Proofs.Ytanljohnmaokeaa
open Go.RowKit
attribute [local go_sem] Fl.run_store_float Try.float64bits Try.float64frombits

/-- Rows that lie in a block's cells from O on. -/
def Vl.RsAt (w : World) (B O : Nat) (rs : List (List Vl.V)) : Prop := ∀ i xs, rs[i]? = some xs → ∃ q c, w.cell? ⟨B, O + i, none⟩ = some (.slice q xs.length c) ∧ xs.length ≤ c ∧ (q = none → xs.length = 0 ∧ c = 0) ∧ Vl.RowIn w q xs
theorem Vl.RsAt.below {w w' : World} {B O : Nat} {rs : List (List Vl.V)} (h : Vl.RsAt w B O rs) (hb : B < w.heap.size) (hB : Below w.heap.size w w') : Vl.RsAt w' B O rs := fun i xs hi => by
  obtain ⟨q, c, h1, h2, h3, h4⟩ := h i xs hi
  exact ⟨q, c, ((Vl.bcell hB).1 _ _ hb).trans h1, h2, h3, h4.below hB⟩
/-- .. or there are none. -/
def Vl.RsIn (w : World) (p : Option Addr) (rs : List (List Vl.V)) : Prop := rs.length = 0 ∨ ∃ B O, p = some ⟨B, O, none⟩ ∧ B < w.heap.size ∧ Vl.RsAt w B O rs
theorem Vl.RsIn.below {w w' : World} {p : Option Addr} {rs : List (List Vl.V)} (h : Vl.RsIn w p rs) (hB : Below w.heap.size w w') : Vl.RsIn w' p rs := by
  rcases h with h | ⟨B, O, e, hb, hr⟩
  · exact Or.inl h
  · exact Or.inr ⟨B, O, e, Nat.lt_of_lt_of_le hb hB.size, hr.below hb hB⟩
theorem Vl.RsIn.at {w : World} {p : Option Addr} {rs : List (List Vl.V)} {k : Nat} {xs : List Vl.V} (h : Vl.RsIn w p rs) (hv : rs[k]? = some xs) : ∃ B O, p = some ⟨B, O, none⟩ ∧ B < w.heap.size ∧ Vl.RsAt w B O rs := by
  rcases h with h | h
  · obtain ⟨g, _⟩ := List.getElem?_eq_some_iff.1 hv; omega
  · exact h

set_option maxRecDepth 100000 in
set_option maxHeartbeats 2000000 in
theorem largeRows_any (p : Option Addr) (n c : Nat) (rs : List (List Vl.V)) (w : World) (hx : rs.length = n) (hn : n ≤ c) (H : Hid (Vl.RsIn w p rs)) :
    Calls Try.prog 29 #[.slice p n c] w fun e w' => ∃ b, e = .returned (.bool b) ∧ (b = false → n ≤ 600 ∧ ∀ (j : Nat) (xs : List Vl.V), rs[j]? = some xs → xs.length ≤ 50 ∧ ∀ (i : Nat) (v : Vl.V), xs[i]? = some v → v.s.size ≤ 2000) ∧ Below w.heap.size w w' := by
  have HX := Vl.hid hx
  clear hx
  cases h6 : decide ((600 : Int) < (n : Int))
  · have HN : Hid (n ≤ 600) := Vl.hid (by simp at h6; omega)
    go_enter Try.func29, Try.ntmps29
    go_wp2_with fail
    go_loopw [3] (fun vi wr => ∃ k : Nat, k ≤ n ∧ vi = .int .i64 (k : Int) ∧ Hid (∀ (j : Nat) (xs : List Vl.V), j < k → rs[j]? = some xs → xs.length ≤ 50 ∧ ∀ (i : Nat) (v : Vl.V), xs[i]? = some v → v.s.size ≤ 2000) ∧ Hid (Below w.heap.size w wr)) (fun vi _ => n - (RowKit.intOf vi).toNat)
    case atStart => exact ⟨0, by omega, rfl, fun j _ h => absurd h (Nat.not_lt_zero j), Below.refl _ _⟩
    case round =>
      obtain ⟨k, hk1, rfl, HI, HB⟩ := hrel
      rename World => wr
      have hn6 := HN.out
      by_cases hlt : k < n
      · obtain ⟨xs, hv⟩ : ∃ xs, rs[k]? = some xs := ⟨rs[k]'(by rw [HX.out]; exact hlt), List.getElem?_eq_getElem _⟩
        obtain ⟨B, O, hp, hb, hr⟩ := H.out.at hv
        obtain ⟨q, cq, hq1, hq2, hq3, hq4⟩ := hr.below hb HB.out k xs hv
        obtain ⟨m, hm⟩ : ∃ m, m = xs.length := ⟨_, rfl⟩
        rw [← hm] at hq1 hq2
        have HM := Vl.hid hm
        have HV := Vl.hid hv
        have HQ := Vl.hid hq4
        clear hr hv hq3 hq4 hm
        subst hp
        go_wp2_with fail
        refine (largeRow_any q m cq xs _ HM.out.symm hq2 HQ).mono ?_
        rintro e w2 ⟨b, rfl, hbf, hb2⟩
        have HBF := Vl.hid hbf
        have HB2 := Vl.hid (Vl.btr HB.out hb2)
        clear hbf hb2
        cases b
        · go_wp2_with fail
          refine ⟨⟨k + 1, by omega, by go_num, fun j u hj hu => ?_, HB2.out⟩, by simp [RowKit.intOf]; omega⟩
          by_cases e : j = k
          · subst e
            rw [HV.out] at hu
            cases hu
            have := HBF.out trivial
            rw [HM.out] at this
            exact this
          · exact HI.out j u (by omega) hu
        · go_wp2_with fail
          go_ret
          exact ⟨true, rfl, (fun h => nomatch h), HB2.out⟩
      · obtain rfl : k = n := by omega
        go_wp2_with fail
        go_ret
        exact ⟨false, rfl, fun _ => ⟨HN.out, fun j v hv => HI.out j v (by obtain ⟨g, _⟩ := List.getElem?_eq_some_iff.1 hv; rw [← HX.out]; exact g) hv⟩, HB.out⟩
  · go_enter Try.func29, Try.ntmps29
    go_wp2_with fail
    go_ret
    exact ⟨true, rfl, (fun h => nomatch h), Below.refl _ _⟩

end Go.Proofs.Ytanljohnmaokeaa
