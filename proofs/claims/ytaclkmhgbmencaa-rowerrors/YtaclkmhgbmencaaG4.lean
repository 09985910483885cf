/- Find, and the reference's. -/
import Derived.Test.YtaclkmhgbmencaaG1
namespace Go.Proofs.Ytaclkmhgbmencaa
open Go.RowKit
attribute [local go_sem] Fl.run_store_float

namespace Vl
theorem streq (a b : ByteArray) : (a.toList == b.toList) = decide (a = b) := by rw [str_eql, decide_eq_decide.2 (cmpS_eq a b)]
end Vl

set_option maxRecDepth 100000 in
set_option maxHeartbeats 2000000 in
theorem find_any (p : Option Addr) (n c : Nat) (cs : List Vl.Col) (nm : ByteArray) (w : World) (hx : cs.length = n) (hn : n ≤ c) (hm : n ≤ 100000) (H : Hid (Vl.ColIn w p cs)) :
    Calls Try.prog 14 #[.slice p n c, .string nm] w fun e w' => e = .returned (.int .i64 (Vl.findN cs nm)) ∧ Below w.heap.size w w' := by
  have HX := Vl.hid hx
  clear hx
  go_enter Try.func14, Try.ntmps14
  go_wp2_with fail
  go_loopw [9] (fun vi wr => ∃ k : Nat, k ≤ n ∧ vi = .int .i64 (k : Int) ∧ Hid (∀ (j : Nat) (v : Vl.Col), j < k → cs[j]? = some v → v.nm ≠ nm) ∧ Hid (Below w.heap.size w wr)) (fun vi _ => n - (RowKit.intOf vi).toNat)
  case atStart => exact ⟨0, by omega, rfl, fun j _ h => absurd h (Nat.not_lt_zero j), Below.refl _ _⟩
  case round =>
    obtain ⟨k, hk1, rfl, HI, HB⟩ := hrel
    rename World => wr
    by_cases hlt : k < n
    · obtain ⟨v, hv⟩ : ∃ v, cs[k]? = some v := ⟨cs[k]'(by rw [HX.out]; exact hlt), List.getElem?_eq_getElem _⟩
      obtain ⟨b, o, hp, hr⟩ := (H.out.below HB.out).at hv
      obtain ⟨_, p0, p1, p2, p3, p4, p5, p6⟩ := hr
      have HV := Vl.hid hv
      clear hv
      subst hp
      cases ht : (v.nm.toList == nm.toList)
      · have HT : Hid (v.nm ≠ nm) := Vl.hid (by rw [Vl.streq] at ht; simpa using ht)
        go_wp2_with fail
        refine ⟨⟨k + 1, by omega, by go_num, fun j u hj hu => ?_, Vl.bal HB.out _⟩, by simp [RowKit.intOf]; omega⟩
        by_cases e : j = k
        · subst e
          rw [HV.out] at hu
          cases hu
          exact HT.out
        · exact HI.out j u (by omega) hu
      · have HT : Hid (v.nm = nm) := Vl.hid (by rw [Vl.streq] at ht; simpa using ht)
        have HE := Vl.hid (Vl.findN_hit HV.out HT.out HI.out)
        go_wp2_with fail
        go_ret
        exact ⟨by rw [HE.out]; rfl, Vl.bal HB.out _⟩
    · obtain rfl : k = n := by omega
      have HE := Vl.hid (Vl.findN_miss (cs := cs) (nm := nm) fun j v hv => HI.out j v (by obtain ⟨g, _⟩ := List.getElem?_eq_some_iff.1 hv; rw [← HX.out]; exact g) hv)
      go_wp2_with fail
      go_ret
      exact ⟨by rw [HE.out]; rfl, HB.out⟩

set_option maxRecDepth 100000 in
set_option maxHeartbeats 2000000 in
theorem refFind_any (p : Option Addr) (n c : Nat) (cs : List Vl.Col) (nm : ByteArray) (w : World) (hx : cs.length = n) (hn : n ≤ c) (hm : n ≤ 100000) (H : Hid (Vl.ColIn w p cs)) :
    Calls Try.prog 15 #[.slice p n c, .string nm] w fun e w' => e = .returned (.int .i64 (Vl.findN cs nm)) ∧ Below w.heap.size w w' := by
  have HX := Vl.hid hx
  clear hx
  go_enter Try.func15, Try.ntmps15
  go_wp2_with fail
  go_loopw [5] (fun vi wr => ∃ k : Nat, k ≤ n ∧ vi = .int .i64 (k : Int) ∧ Hid (∀ (j : Nat) (v : Vl.Col), j < k → cs[j]? = some v → v.nm ≠ nm) ∧ Hid (Below w.heap.size w wr)) (fun vi _ => n - (RowKit.intOf vi).toNat)
  case atStart => exact ⟨0, by omega, rfl, fun j _ h => absurd h (Nat.not_lt_zero j), Below.refl _ _⟩
  case round =>
    obtain ⟨k, hk1, rfl, HI, HB⟩ := hrel
    rename World => wr
    by_cases hlt : k < n
    · obtain ⟨v, hv⟩ : ∃ v, cs[k]? = some v := ⟨cs[k]'(by rw [HX.out]; exact hlt), List.getElem?_eq_getElem _⟩
      obtain ⟨b, o, hp, hr⟩ := (H.out.below HB.out).at hv
      obtain ⟨_, p0, p1, p2, p3, p4, p5, p6⟩ := hr
      have HV := Vl.hid hv
      clear hv
      subst hp
      cases ht : (v.nm.toList == nm.toList)
      · have HT : Hid (v.nm ≠ nm) := Vl.hid (by rw [Vl.streq] at ht; simpa using ht)
        go_wp2_with fail
        refine ⟨⟨k + 1, by omega, by go_num, fun j u hj hu => ?_, HB.out⟩, by simp [RowKit.intOf]; omega⟩
        by_cases e : j = k
        · subst e
          rw [HV.out] at hu
          cases hu
          exact HT.out
        · exact HI.out j u (by omega) hu
      · have HT : Hid (v.nm = nm) := Vl.hid (by rw [Vl.streq] at ht; simpa using ht)
        have HE := Vl.hid (Vl.findN_hit HV.out HT.out HI.out)
        go_wp2_with fail
        go_ret
        exact ⟨by rw [HE.out]; rfl, HB.out⟩
    · obtain rfl : k = n := by omega
      have HE := Vl.hid (Vl.findN_miss (cs := cs) (nm := nm) fun j v hv => HI.out j v (by obtain ⟨g, _⟩ := List.getElem?_eq_some_iff.1 hv; rw [← HX.out]; exact g) hv)
      go_wp2_with fail
      go_ret
      exact ⟨by rw [HE.out]; rfl, HB.out⟩

end Go.Proofs.Ytaclkmhgbmencaa
