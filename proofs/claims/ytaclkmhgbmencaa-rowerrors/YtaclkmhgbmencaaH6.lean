/- Helpers of the statements over rows and columns. -/
import Derived.Test.YtaclkmhgbmencaaG1
import Derived.Test.YtaclkmhgbmencaaX2
import Derived.Deep.RegionHeld3
namespace Go.Proofs.Ytaclkmhgbmencaa
open Go.RowKit
attribute [local go_sem] Fl.run_store_float Try.float64bits Try.float64frombits

set_option maxRecDepth 100000 in
set_option maxHeartbeats 2000000 in
theorem largeRow_any (p : Option Addr) (n c : Nat) (xs : List Vl.V) (w : World) (hx : xs.length = n) (hn : n ≤ c) (H : Hid (Vl.RowIn w p xs)) :
    Calls Try.prog 17 #[.slice p n c] w fun e w' => ∃ b, e = .returned (.bool b) ∧ (b = false → n ≤ 50 ∧ ∀ (j : Nat) (v : Vl.V), xs[j]? = some v → v.s.size ≤ 2000) ∧ Below w.heap.size w w' := by
  have HX := Vl.hid hx
  clear hx
  cases h50 : decide ((50 : Int) < (n : Int))
  · have HN : Hid (n ≤ 50) := Vl.hid (by simp at h50; omega)
    go_enter Try.func17, Try.ntmps17
    go_wp2_with fail
    go_loopw [3] (fun vi wr => ∃ k : Nat, k ≤ n ∧ vi = .int .i64 (k : Int) ∧ Hid (∀ (j : Nat) (v : Vl.V), j < k → xs[j]? = some v → v.s.size ≤ 2000) ∧ Hid (Below w.heap.size w wr)) (fun vi _ => n - (RowKit.intOf vi).toNat)
    case atStart => exact ⟨0, by omega, rfl, fun j _ h => absurd h (Nat.not_lt_zero j), Below.refl _ _⟩
    case round =>
      obtain ⟨k, hk1, rfl, HI, HB⟩ := hrel
      rename World => wr
      have hn50 := HN.out
      by_cases hlt : k < n
      · obtain ⟨v, hv⟩ : ∃ v, xs[k]? = some v := ⟨xs[k]'(by rw [HX.out]; exact hlt), List.getElem?_eq_getElem _⟩
        obtain ⟨b, o, hp, hr⟩ := (H.out.below HB.out).at hv
        obtain ⟨_, p0, p1, p2, p3⟩ := hr
        have HV := Vl.hid hv
        clear hv
        subst hp
        cases ht : decide ((2000 : Int) < (v.s.size : Int))
        · go_wp2_with fail
          refine (largeValue_any v _).mono ?_
          rintro e w2 ⟨rfl, hq⟩
          have HB2 : Hid (Below w.heap.size w w2) := Vl.hid (by rw [hq]; exact Vl.bal HB.out _)
          clear hq
          go_wp2_with fail
          refine ⟨⟨k + 1, by omega, by go_num, fun j u hj hu => ?_, HB2.out⟩, by simp [RowKit.intOf]; omega⟩
          by_cases e : j = k
          · subst e
            rw [HV.out] at hu
            cases hu
            simp at ht; omega
          · exact HI.out j u (by omega) hu
        · go_wp2_with fail
          refine (largeValue_any v _).mono ?_
          rintro e w2 ⟨rfl, hq⟩
          have HB2 : Hid (Below w.heap.size w w2) := Vl.hid (by rw [hq]; exact Vl.bal HB.out _)
          clear hq
          go_wp2_with fail
          go_ret
          exact ⟨true, rfl, (fun h => nomatch h), HB2.out⟩
      · obtain rfl : k = n := by omega
        go_wp2_with fail
        go_ret
        exact ⟨false, rfl, fun _ => ⟨HN.out, fun j v hv => HI.out j v (by obtain ⟨g, _⟩ := List.getElem?_eq_some_iff.1 hv; rw [← HX.out]; exact g) hv⟩, HB.out⟩
  · go_enter Try.func17, Try.ntmps17
    go_wp2_with fail
    go_ret
    exact ⟨true, rfl, (fun h => nomatch h), Below.refl _ _⟩

set_option maxRecDepth 100000 in
set_option maxHeartbeats 2000000 in
theorem largeColumns_any (p : Option Addr) (n c : Nat) (cs : List Vl.Col) (w : World) (hx : cs.length = n) (hn : n ≤ c) (H : Hid (Vl.ColIn w p cs)) :
    Calls Try.prog 8 #[.slice p n c] w fun e w' => ∃ b, e = .returned (.bool b) ∧ (b = false → n ≤ 50) ∧ Below w.heap.size w w' := by
  have HX := Vl.hid hx
  clear hx
  cases h50 : decide ((50 : Int) < (n : Int))
  · have HN : Hid (n ≤ 50) := Vl.hid (by simp at h50; omega)
    go_enter Try.func8, Try.ntmps8
    go_wp2_with fail
    go_loopw [3] (fun vi wr => ∃ k : Nat, k ≤ n ∧ vi = .int .i64 (k : Int) ∧ Hid (Below w.heap.size w wr)) (fun vi _ => n - (RowKit.intOf vi).toNat)
    case atStart => exact ⟨0, by omega, rfl, Below.refl _ _⟩
    case round =>
      obtain ⟨k, hk1, rfl, HB⟩ := hrel
      rename World => wr
      have hn50 := HN.out
      by_cases hlt : k < n
      · obtain ⟨v, hv⟩ : ∃ v, cs[k]? = some v := ⟨cs[k]'(by rw [HX.out]; exact hlt), List.getElem?_eq_getElem _⟩
        obtain ⟨b, o, hp, hr⟩ := (H.out.below HB.out).at hv
        obtain ⟨_, p0, p1, p2, p3, p4, p5, p6⟩ := hr
        clear hv
        subst hp
        cases hs : decide ((1000 : Int) < (v.nm.size : Int))
        · cases ht : decide ((2000 : Int) < (v.d.s.size : Int))
          · go_wp2_with fail
            refine (largeValue_any v.d _).mono ?_
            rintro e w2 ⟨rfl, hq⟩
            have HB2 : Hid (Below w.heap.size w w2) := Vl.hid (by rw [hq]; exact Vl.bal HB.out _)
            clear hq
            go_wp2_with fail
            exact ⟨⟨k + 1, by omega, by go_num, HB2.out⟩, by simp [RowKit.intOf]; omega⟩
          · go_wp2_with fail
            refine (largeValue_any v.d _).mono ?_
            rintro e w2 ⟨rfl, hq⟩
            have HB2 : Hid (Below w.heap.size w w2) := Vl.hid (by rw [hq]; exact Vl.bal HB.out _)
            clear hq
            go_wp2_with fail
            go_ret
            exact ⟨true, rfl, (fun h => nomatch h), HB2.out⟩
        · go_wp2_with fail
          go_ret
          exact ⟨true, rfl, (fun h => nomatch h), HB.out⟩
      · obtain rfl : k = n := by omega
        go_wp2_with fail
        go_ret
        exact ⟨false, rfl, fun _ => HN.out, HB.out⟩
  · go_enter Try.func8, Try.ntmps8
    go_wp2_with fail
    go_ret
    exact ⟨true, rfl, (fun h => nomatch h), Below.refl _ _⟩

set_option maxHeartbeats 1000000 in
theorem mod_any (a : Int) (m : Nat) (w : World) (h1 : 1 ≤ m) (h2 : m ≤ 1000) :
    Calls Try.prog 27 #[.int .i64 a, .int .i64 (m : Int)] w fun e w' => ∃ r : Nat, r < m ∧ e = .returned (.int .i64 (r : Int)) ∧ w' = w := by
  have hd : decide ((m : Int) < 1) = false := decide_eq_false (by omega)
  have hz : ((m : Int) == 0) = false := beq_eq_false_iff_ne.2 (by omega)
  have hz' : ¬ (m : Int) = 0 := by omega
  go_enter Try.func27, Try.ntmps27
  go_wp2_with fail
  go_ret
  have b1 : a.tmod (m : Int) < (m : Int) := Int.tmod_lt_of_pos a (by omega)
  have b2 : -(m : Int) < a.tmod (m : Int) := Int.lt_tmod_of_pos a (by omega)
  have e1 : wrap64 (a.tmod (m : Int) + (m : Int)) = a.tmod (m : Int) + (m : Int) := by
    generalize a.tmod (m : Int) = t at *
    unfold wrap64
    omega
  have e2 : (a.tmod (m : Int) + (m : Int)).tmod (m : Int) = (a.tmod (m : Int) + (m : Int)) % (m : Int) := Int.tmod_eq_emod_of_nonneg (by omega)
  have b3 : 0 ≤ (a.tmod (m : Int) + (m : Int)) % (m : Int) := Int.emod_nonneg _ (by omega)
  have b4 : (a.tmod (m : Int) + (m : Int)) % (m : Int) < (m : Int) := Int.emod_lt_of_pos _ (by omega)
  refine ⟨((a.tmod (m : Int) + (m : Int)) % (m : Int)).toNat, by omega, ?_, rfl⟩
  show Ending.returned (Value.int .i64 ((wrap64 (a.tmod (m : Int) + (m : Int))).tmod (m : Int))) = _
  rw [e1, e2, Int.toNat_of_nonneg b3]

end Go.Proofs.Ytaclkmhgbmencaa
