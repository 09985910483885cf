/- Fair, Has, rows, Rows. -/
import Derived.Test.YtoobljkjhpkghaaHc0
import Derived.Test.YtoobljkjhpkghaaHop2
namespace Go.Proofs.Ytoobljkjhpkghaa
open Go.RowKit

/-- Is a step small? -/
def Hp.Stp.Small (x : Hp.Stp) : Prop := x.xs.length ≤ 50 ∧ ∀ v ∈ x.xs, v.s.size ≤ 2000
/-- What a yes means. -/
def Hp.FairOk (b : Bool) (l : Nat) (zs : List Hp.Stp) : Prop := b = true → l ≤ 120 ∧ ∀ x ∈ zs, x.Small
def Hp.FairR (l : Nat) (zs : List Hp.Stp) (w : World) (e : Ending) (w' : World) : Prop := ∃ b, e = .returned (.bool b) ∧ Hp.FairOk b l zs ∧ Below w.heap.size w w'
theorem Hp.FairOk.no (l : Nat) (zs : List Hp.Stp) : Hp.FairOk false l zs := fun h => nomatch h

set_option maxRecDepth 100000 in
set_option maxHeartbeats 2000000 in
theorem fair_any (pa : Option Addr) (l c : Nat) (zs : List Hp.Stp) (W w : World) (HX : Hid (Hp.Stps W pa l c zs)) (hW : Hid (Below W.heap.size W w)) :
    Calls Try.prog 11 #[.slice pa l c] w fun e w' => Hp.FairR l zs w e w' := by
  have hbig : l ≤ 9223372036854775807 := by have := HX.out.big; unfold maxLen at this; omega
  go_enter Try.func11, Try.ntmps11
  go_wp2_with fail
  go_loopw [3] (fun vi wr => ∃ k : Nat, k ≤ l ∧ vi = .int .i64 (k : Int) ∧ Hid (∀ (j : Nat) (x : Hp.Stp), j < k → zs[j]? = some x → x.Small) ∧ Hid (Below w.heap.size w wr)) (fun vi _ => l - (RowKit.intOf vi).toNat)
  case atStart => exact ⟨0, by omega, rfl, fun j _ h => absurd h (Nat.not_lt_zero j), Below.refl _ _⟩
  case round =>
    obtain ⟨k, hk1, rfl, HI, HB⟩ := hrel
    rename World => wr
    have HWr := Vl.hid (hW.out.trans (HB.out.mono hW.out.size))
    by_cases hlt : k < l
    · obtain ⟨x, hv⟩ : ∃ x, zs[k]? = some x := ⟨zs[k]'(by rw [HX.out.len]; exact hlt), List.getElem?_eq_getElem _⟩
      obtain ⟨⟨bx, ox, rfl, hb, d0, d1, d2, d3, d4⟩, r1, r2, r3⟩ := HX.out.at_ k x hv
      have HV := Vl.hid hv
      have HRow := Vl.hid (r3.below HWr.out)
      have HR1 := Vl.hid r1
      have c4 := (HWr.out.cell (p := ⟨bx, ox + k * 5 + 4, none⟩) hb).trans d4
      have i1 : (k : Int) < (l : Int) := by omega
      have i2 : (0 : Int) ≤ (k : Int) := by omega
      clear hv d0 d1 d2 d3 d4 r1 r2 r3 hb
      go_wp2_with fail
      refine (largeRow_any x.p x.xs.length x.c x.xs wr rfl HR1.out HRow).mono ?_
      rintro e w2 ⟨bb, rfl, hbb, hb⟩
      have HB2 := Vl.hid (HB.out.trans (hb.mono HB.out.size))
      have HBB := Vl.hid hbb
      clear hb hbb
      cases bb
      · go_wp2_with fail
        refine ⟨⟨k + 1, by omega, by go_num, fun j u hj hu => ?_, HB2.out⟩, by simp [RowKit.intOf]; omega⟩
        by_cases e : j = k
        · subst e
          rw [HV.out] at hu
          cases hu
          obtain ⟨q1, q2⟩ := (by first | exact HBB.out rfl | exact HBB.out trivial)
          exact ⟨q1, fun v hv => by obtain ⟨i, hi⟩ := List.getElem?_of_mem hv; exact q2 i v hi⟩
        · exact HI.out j u (by omega) hu
      · go_wp2_with fail
        go_ret
        exact ⟨false, rfl, Hp.FairOk.no _ _, HB2.out⟩
    · obtain rfl : k = l := by omega
      have HA : Hid (∀ x ∈ zs, x.Small) := Vl.hid (fun x hx => by
        obtain ⟨j, hj⟩ := List.getElem?_of_mem hx
        exact HI.out j x (by rw [← HX.out.len]; exact (List.getElem?_eq_some_iff.1 hj).1) hj)
      by_cases h120 : k ≤ 120
      · have i1 : (k : Int) ≤ 120 := by omega
        go_wp2_with fail
        go_ret
        exact ⟨true, rfl, (fun _ => ⟨h120, HA.out⟩ : Hp.FairOk true k zs), HB.out⟩
      · have i1 : ¬ (k : Int) ≤ 120 := by omega
        go_wp2_with fail
        go_ret
        exact ⟨false, rfl, Hp.FairOk.no _ _, HB.out⟩

set_option maxRecDepth 100000 in
set_option maxHeartbeats 2000000 in
theorem has_any (l : List Int) (x : Int) (p : Option Addr) (n c : Nat) (w : World) (ha : Hid (Mm.IIn w p l)) (hn : Hid (n = l.length)) (hx : Hid (x ∈ l)) (h6 : n ≤ 1000000) :
    Calls Try.prog 33 #[.slice p n c, .int .i64 x] w fun e w' => e = .returned (.bool true) ∧ Below w.heap.size w w' := by
  go_enter Try.func33, Try.ntmps33
  go_wp2_with fail
  go_loopw [5] (fun vi wr => ∃ k : Nat, k ≤ n ∧ vi = .int .i64 (k : Int) ∧ Hid (∀ j : Nat, j < k → l[j]? ≠ some x) ∧ Hid (Below w.heap.size w wr)) (fun vi _ => n - (RowKit.intOf vi).toNat)
  case atStart => exact ⟨0, by omega, rfl, fun j h => absurd h (Nat.not_lt_zero j), Below.refl _ _⟩
  case round =>
    obtain ⟨k, hk, rfl, HI, HB⟩ := hrel
    by_cases hlt : k < n
    · obtain ⟨a, ha1⟩ : ∃ a, l[k]? = some a := ⟨_, List.getElem?_eq_getElem (by rw [← hn.out]; exact hlt)⟩
      obtain ⟨g1, o1, rfl, _, hc1⟩ := (ha.out.below HB.out) k a ha1
      have HA := Mm.hid ha1
      have g01 : (0 : Int) ≤ (k : Int) := by omega
      have g02 : (k : Int) < (n : Int) := by omega
      clear ha1
      by_cases e : a = x
      · have he : (a == x) = true := by simpa using e
        clear e
        go_wp2_with fail
        go_ret
        exact ⟨rfl, HB.out⟩
      · have he : (a == x) = false := by simpa using e
        have HE : Hid (a ≠ x) := Mm.hid e
        clear e
        go_wp2_with fail
        refine ⟨⟨k + 1, by omega, by go_num, fun j hj => ?_, HB.out⟩, by simp [RowKit.intOf]; omega⟩
        by_cases ej : j = k
        · subst ej; rw [HA.out]; intro h; exact HE.out (by injection h)
        · exact HI.out j (by omega)
    · exfalso
      obtain ⟨j, hj⟩ := List.getElem?_of_mem hx.out
      have := (List.getElem?_eq_some_iff.1 hj).1
      exact HI.out j (by have := hn.out; omega) hj
end Go.Proofs.Ytoobljkjhpkghaa
