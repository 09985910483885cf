/- Helpers of the statements over rows of values. -/
import Derived.Test.YtanljohnmaokeaaR2
import Derived.Test.YtanljohnmaokeaaX2
import Derived.Deep.RegionHeld3
namespace Go.Proofs.Ytanljohnmaokeaa
open Go.RowKit
attribute [local go_sem] Fl.run_store_float Try.float64bits Try.float64frombits

theorem Vl.RowIn.at {w : World} {p : Option Addr} {xs : List Vl.V} {k : Nat} {v : Vl.V} (h : Vl.RowIn w p xs) (hv : xs[k]? = some v) : ∃ b o, p = some ⟨b, o, none⟩ ∧ b < w.heap.size ∧ Vl.RowAt w b o xs := by
  rcases h with h | h
  · obtain ⟨g, _⟩ := List.getElem?_eq_some_iff.1 hv; omega
  · exact h

set_option maxRecDepth 100000 in
set_option maxHeartbeats 2000000 in
theorem largeRow_any (p : Option Addr) (n c : Nat) (xs : List Vl.V) (w : World) (hx : xs.length = n) (hn : n ≤ c) (H : Hid (Vl.RowIn w p xs)) :
    Calls Try.prog 23 #[.slice p n c] w fun e w' => ∃ b, e = .returned (.bool b) ∧ (b = false → n ≤ 50 ∧ ∀ (j : Nat) (v : Vl.V), xs[j]? = some v → v.s.size ≤ 2000) ∧ Below w.heap.size w w' := by
  have HX := Vl.hid hx
  clear hx
  cases h50 : decide ((50 : Int) < (n : Int))
  · have HN : Hid (n ≤ 50) := Vl.hid (by simp at h50; omega)
    go_enter Try.func23, Try.ntmps23
    go_wp2_with fail
    go_loopw [3] (fun vi wr => ∃ k : Nat, k ≤ n ∧ vi = .int .i64 (k : Int) ∧ Hid (∀ (j : Nat) (v : Vl.V), j < k → xs[j]? = some v → v.s.size ≤ 2000) ∧ Hid (Below w.heap.size w wr)) (fun vi _ => n - (RowKit.intOf vi).toNat)
    case atStart => exact ⟨0, by omega, rfl, fun j _ h => absurd h (Nat.not_lt_zero j), Below.refl _ _⟩
    case round =>
      obtain ⟨k, hk1, rfl, HI, HB⟩ := hrel
      rename World => wr
      have hn50 := HN.out
      by_cases hlt : k < n
      · obtain ⟨v, hv⟩ : ∃ v, xs[k]? = some v := ⟨xs[k]'(by rw [HX.out]; exact hlt), List.getElem?_eq_getElem _⟩
        obtain ⟨b, o, hp, hb, hr⟩ := H.out.at hv
        obtain ⟨p0, p1, p2, p3⟩ := hr.below hb HB.out k v hv
        have HV := Vl.hid hv
        clear hr hv
        subst hp
        cases ht : decide ((2000 : Int) < (v.s.size : Int))
        · go_wp2_with fail
          refine (largeValue_any v _).mono ?_
          rintro e w2 ⟨rfl, hq⟩
          have HB2 : Hid (Below w.heap.size w w2) := Vl.hid (by rw [hq]; exact Vl.bal HB.out _)
          clear hq
          go_wp2_with fail
          refine ⟨⟨k + 1, by omega, by go_num, fun j u hj hu => ?_, HB2.out⟩, by simp [RowKit.intOf]; omega⟩
          by_cases e : j = k
          · subst e
            rw [HV.out] at hu
            cases hu
            simp at ht; omega
          · exact HI.out j u (by omega) hu
        · go_wp2_with fail
          refine (largeValue_any v _).mono ?_
          rintro e w2 ⟨rfl, hq⟩
          have HB2 : Hid (Below w.heap.size w w2) := Vl.hid (by rw [hq]; exact Vl.bal HB.out _)
          clear hq
          go_wp2_with fail
          go_ret
          exact ⟨true, rfl, (fun h => nomatch h), HB2.out⟩
      · obtain rfl : k = n := by omega
        go_wp2_with fail
        go_ret
        exact ⟨false, rfl, fun _ => ⟨HN.out, fun j v hv => HI.out j v (by obtain ⟨g, _⟩ := List.getElem?_eq_some_iff.1 hv; rw [← HX.out]; exact g) hv⟩, HB.out⟩
  · go_enter Try.func23, Try.ntmps23
    go_wp2_with fail
    go_ret
    exact ⟨true, rfl, (fun h => nomatch h), Below.refl _ _⟩

end Go.Proofs.Ytanljohnmaokeaa
