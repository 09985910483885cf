/- The reference's Row. -/
import Derived.Test.YtanljohnmaokeaaN1
import Derived.Test.YtanljohnmaokeaaE4
import Derived.Test.YtanljohnmaokeaaBackLaw
namespace Go.Proofs.Ytanljohnmaokeaa
open Go.RowKit
attribute [local go_sem] Fl.run_store_float Try.float64bits Try.float64frombits
namespace Vl
/-- The bytes of the values behind acc; none: one of them is not good. -/
def rowAcc (acc : ByteArray) : List V → Option ByteArray
  | [] => some acc
  | v :: l => if goodB v.k v.n v.f v.s then rowAcc (acc ++ encS v.k v.n v.f v.s) l else none
def rowT (xs : List V) : ByteArray × Int :=
  if 6 < xs.length then (⟨#[]⟩, 3) else match rowAcc ⟨#[UInt8.ofNat xs.length]⟩ xs with
    | some s => (s, 0)
    | none => (⟨#[]⟩, 11)
theorem rowAcc_drop {acc : ByteArray} {xs : List V} {k : Nat} {v : V} (hv : xs[k]? = some v) : rowAcc acc (xs.drop k) = if goodB v.k v.n v.f v.s then rowAcc (acc ++ encS v.k v.n v.f v.s) (xs.drop (k + 1)) else none := by
  obtain ⟨g, e⟩ := List.getElem?_eq_some_iff.1 hv
  rw [List.drop_eq_getElem_cons g, e]; rfl
end Vl

set_option maxRecDepth 100000 in
set_option maxHeartbeats 2000000 in
theorem refRow_any (p : Option Addr) (n c : Nat) (xs : List Vl.V) (w : World) (hx : xs.length = n) (hn : n ≤ c) (hl : n ≤ 100000) (HF : Hid (∀ (j : Nat) (v : Vl.V), xs[j]? = some v → v.f < 18446744073709551616 ∧ v.s.size ≤ 2000)) (H : Hid (Vl.RowIn w p xs)) :
    Calls Try.prog 25 #[.slice p n c] w fun e w' => e = .returned (.tuple #[.string (Vl.rowT xs).1, .int .i64 (Vl.rowT xs).2]) ∧ Below w.heap.size w w' := by
  have HX := Vl.hid hx
  clear hx
  cases h6 : decide ((6 : Int) < (n : Int))
  · have hn6 : n ≤ 6 := by simp at h6; omega
    go_enter Try.func25, Try.ntmps25
    have hw8 : (n : Int) = (((UInt8.ofNat n).toNat : Nat) : Int) := by simp; omega
    have HW8 := Vl.hid hw8
    clear hw8
    have hcv : ∀ (W : World) (r : Nat), W.cell? ⟨r, 0, none⟩ = some (.int .u8 (n : Int)) → (convert 74 9 (.slice (some ⟨r, 0, none⟩) 1 1)).run Try.prog W = .ok (.string ⟨#[UInt8.ofNat n]⟩) W := fun W r h => Vl.conv1 Try.underlying74 Try.underlying5 Try.underlying9 W r _ (by rw [h, ← HW8.out])
    have HR : Hid (Vl.rowT xs = match Vl.rowAcc ⟨#[UInt8.ofNat n]⟩ xs with | some s => (s, 0) | none => (⟨#[]⟩, 11)) := Vl.hid (by unfold Vl.rowT; rw [if_neg (by rw [HX.out]; omega), HX.out])
    go_wp2_with fail
    go_loopw [4, 5] (fun va vi wr => ∃ (k : Nat) (acc : ByteArray), k ≤ n ∧ vi = .int .i64 (k : Int) ∧ va = .string acc ∧ Hid (acc.size ≤ 1 + k * 301) ∧ Hid (Vl.rowAcc ⟨#[UInt8.ofNat n]⟩ xs = Vl.rowAcc acc (xs.drop k)) ∧ Hid (Below w.heap.size w wr)) (fun _ vi _ => n - (RowKit.intOf vi).toNat)
    case atStart => exact ⟨0, _, by omega, rfl, rfl, Nat.le_refl _, rfl, Vl.bal (Below.refl _ _) _⟩
    case round =>
      obtain ⟨k, acc, hk1, rfl, rfl, HZ, HA, HB⟩ := hrel
      rename World => wr
      by_cases hlt : k < n
      · obtain ⟨v, hv⟩ : ∃ v, xs[k]? = some v := ⟨xs[k]'(by rw [HX.out]; exact hlt), List.getElem?_eq_getElem _⟩
        obtain ⟨b, o, hp, hb, hr⟩ := H.out.at hv
        obtain ⟨p0, p1, p2, p3⟩ := hr.below hb HB.out k v hv
        have HV := Vl.hid hv
        have HVF := Vl.hid (HF.out k v hv).1
        have hD := Vl.rowAcc_drop (acc := acc) hv
        clear hr hv
        subst hp
        cases hg : Vl.goodB v.k v.n v.f v.s
        · rw [hg, if_neg (by decide)] at hD
          have HD := Vl.hid hD
          have HG := Vl.hid hg
          clear hD hg
          go_wp2_with fail
          refine (refEncode_any v.k v.n v.f v.s _ HVF.out).mono ?_
          rintro e w2 ⟨rfl, hb2⟩
          have e1 : Vl.encR v.k v.n v.f v.s = ⟨#[]⟩ := by unfold Vl.encR; rw [HG.out]; rfl
          have e2 : Vl.encE v.k v.n v.f v.s = 11 := by unfold Vl.encE; rw [HG.out]; rfl
          rw [e1, e2]
          have HB2 := Vl.hid (Vl.btr HB.out hb2)
          clear hb2 e1 e2
          go_wp2_with fail
          go_ret2
          exact ⟨by rw [HR.out, HA.out, HD.out]; rfl, HB2.out⟩
        · rw [hg, if_pos rfl] at hD
          have HD := Vl.hid hD
          have HG := Vl.hid hg
          have hes : (Vl.encS v.k v.n v.f v.s).size ≤ 301 := by rw [Vl.encS_size]; have := Vl.body_le hg; omega
          have HES := Vl.hid hes
          clear hD hg hes
          go_wp2_with fail
          refine (refEncode_any v.k v.n v.f v.s _ HVF.out).mono ?_
          rintro e w2 ⟨rfl, hb2⟩
          have e1 : Vl.encR v.k v.n v.f v.s = Vl.encS v.k v.n v.f v.s := by unfold Vl.encR; rw [HG.out]; rfl
          have e2 : Vl.encE v.k v.n v.f v.s = 0 := by unfold Vl.encE; rw [HG.out]; rfl
          rw [e1, e2]
          have HB2 := Vl.hid (Vl.btr HB.out hb2)
          have hov : ¬ 9223372036854775807 < acc.size + (Vl.encS v.k v.n v.f v.s).size := by have := HZ.out; have := HES.out; omega
          clear hb2 e1 e2
          go_wp2_with fail
          exact ⟨⟨k + 1, _, by omega, by go_num, rfl, Vl.hid (by rw [ByteArray.size_append]; have := HZ.out; have := HES.out; omega), HA.out.trans HD.out, HB2.out⟩, by simp [RowKit.intOf]; omega⟩
      · obtain rfl : k = n := by omega
        have hE : Vl.rowAcc acc (xs.drop k) = some acc := by rw [List.drop_of_length_le (by rw [HX.out]; exact Nat.le_refl _)]; rfl
        have HE := Vl.hid hE
        clear hE
        go_wp2_with fail
        go_ret2
        exact ⟨by rw [HR.out, HA.out, HE.out]; rfl, HB.out⟩
  · go_enter Try.func25, Try.ntmps25
    have e : Vl.rowT xs = (⟨#[]⟩, 3) := by unfold Vl.rowT; rw [if_pos (by rw [HX.out]; simp at h6; omega)]
    rw [e]
    go_wp2_with fail
    go_ret2
    exact ⟨rfl, Below.refl _ _⟩

end Go.Proofs.Ytanljohnmaokeaa
