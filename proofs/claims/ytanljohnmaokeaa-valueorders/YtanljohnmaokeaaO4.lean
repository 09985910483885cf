/- The statements' comparison of lists of rows, bit for bit. -/
import Derived.Test.YtanljohnmaokeaaO3
namespace Go.Proofs.Ytanljohnmaokeaa
open Go.RowKit
attribute [local go_sem] Fl.run_store_float Try.float64bits Try.float64frombits

def Vl.TwoC (b1 o1 b2 o2 : Nat) (x y : Value) (W w' : World) : Prop :=
  w'.cell? ⟨b1, o1, none⟩ = some x ∧ w'.cell? ⟨b2, o2, none⟩ = some y ∧ b1 < w'.heap.size ∧ b2 < w'.heap.size ∧ Below W.heap.size W w'
theorem Vl.twoCDrew {b1 o1 b2 o2 : Nat} {x y : Value} {W w' : World} (h : Vl.TwoC b1 o1 b2 o2 x y W w') : Vl.TwoC b1 o1 b2 o2 x y W w'.drew := by
  obtain ⟨h0, h1, h2, h3, h4⟩ := h
  exact ⟨h0, h1, h2, h3, Vl.bdrewN h4 1⟩
theorem Vl.twoCKeep {b1 o1 b2 o2 : Nat} {x y : Value} {W w0 w1 : World} (hb : Below w0.heap.size w0 w1) (h : Vl.TwoC b1 o1 b2 o2 x y W w0) : Vl.TwoC b1 o1 b2 o2 x y W w1 := by
  obtain ⟨h0, h1, h2, h3, h4⟩ := h
  have hm := (Vl.bcell hb).1
  exact ⟨(hm _ _ h2).trans h0, (hm _ _ h3).trans h1, Nat.lt_of_lt_of_le h2 hb.size, Nat.lt_of_lt_of_le h3 hb.size, Vl.btr h4 hb⟩
theorem Vl.twoCB {b1 o1 b2 o2 : Nat} {x y : Value} {W w' : World} (h : Vl.TwoC b1 o1 b2 o2 x y W w') : Below W.heap.size W w' := h.2.2.2.2

set_option maxRecDepth 100000 in
set_option maxHeartbeats 2000000 in
theorem keepRows_same (p1 p2 : Option Addr) (n c1 c2 : Nat) (rs : List (List Vl.V)) (w : World) (hx : rs.length = n) (hn : n ≤ 100000) (hn1 : n ≤ c1) (hn2 : n ≤ c2) (HM : Hid (∀ (j : Nat) (xs : List Vl.V), rs[j]? = some xs → xs.length ≤ 100000)) (H1 : Hid (Vl.RsIn w p1 rs)) (H2 : Hid (Vl.RsIn w p2 rs)) :
    Calls Try.prog 32 #[.slice p1 n c1, .slice p2 n c2] w fun e w' => e = .returned (.bool true) ∧ Below w.heap.size w w' := by
  have HX := Vl.hid hx
  clear hx
  go_enter Try.func32, Try.ntmps32
  go_wp2_with fail
  go_loopw [5] (fun vi wr => ∃ k : Nat, k ≤ n ∧ vi = .int .i64 (k : Int) ∧ Hid (Below w.heap.size w wr)) (fun vi _ => n - (RowKit.intOf vi).toNat)
  case atStart => exact ⟨0, by omega, rfl, Below.refl _ _⟩
  case round =>
    obtain ⟨k, hk1, rfl, HB⟩ := hrel
    rename World => wr
    by_cases hlt : k < n
    · obtain ⟨xs, hv⟩ : ∃ xs, rs[k]? = some xs := ⟨rs[k]'(by rw [HX.out]; exact hlt), List.getElem?_eq_getElem _⟩
      obtain ⟨b1, o1, hp1, hb1, hr1⟩ := H1.out.at hv
      obtain ⟨b2, o2, hp2, hb2, hr2⟩ := H2.out.at hv
      obtain ⟨q1, d1, e1, e2, _, e4⟩ := hr1.below hb1 HB.out k xs hv
      obtain ⟨q2, d2, f1, f2, _, f4⟩ := hr2.below hb2 HB.out k xs hv
      obtain ⟨m, hm⟩ : ∃ m, m = xs.length := ⟨_, rfl⟩
      rw [← hm] at e1 e2 f1 f2
      have HS : Hid (Vl.TwoC b1 (o1 + k) b2 (o2 + k) (.slice q1 m d1) (.slice q2 m d2) wr wr) := Vl.hid ⟨e1, f1, Nat.lt_of_lt_of_le hb1 HB.out.size, Nat.lt_of_lt_of_le hb2 HB.out.size, Below.refl _ _⟩
      have HQ := Vl.hid (And.intro hm.symm (And.intro (by rw [hm]; exact HM.out k xs hv : m ≤ 100000) (And.intro e2 (And.intro f2 (And.intro e4 f4)))))
      clear hr1 hr2 hv e1 e2 e4 f1 f2 f4 hm
      subst hp1 hp2
      go_wp2_with fail
      go_region_held3 (fun w' => w'.cell? ⟨b1, o1 + k, none⟩ = some (.slice q1 m d1) ∧ w'.cell? ⟨b2, o2 + k, none⟩ = some (.slice q2 m d2) ∧ b1 < w'.heap.size ∧ b2 < w'.heap.size ∧ Below wr.heap.size wr w')
        (first | exact Vl.twoCDrew HS.out | exact Vl.twoCKeep hb (by assumption))
        (first | (go_at_call 28; refine (keepValues_same q1 q2 m d1 d2 xs _ HQ.out.1 HQ.out.2.1 HQ.out.2.2.1 HQ.out.2.2.2.1 (Vl.hid (HQ.out.2.2.2.2.1.below (Vl.bdrewN (Below.refl _ _) 1))) (Vl.hid (HQ.out.2.2.2.2.2.below (Vl.bdrewN (Below.refl _ _) 1)))).mono ?_; rintro e w' ⟨rfl, hb⟩))
      go_wp2_with fail
      exact ⟨⟨k + 1, by omega, by go_num, Vl.btr HB.out (Vl.twoCB (b1 := b1) (b2 := b2) (o1 := o1 + k) (o2 := o2 + k) (x := .slice q1 m d1) (y := .slice q2 m d2) (by assumption))⟩, by simp [RowKit.intOf]; omega⟩
    · obtain rfl : k = n := by omega
      go_wp2_with fail
      go_ret
      exact ⟨rfl, HB.out⟩

set_option maxHeartbeats 1000000 in
theorem mod_any (a : Int) (m : Nat) (w : World) (h1 : 1 ≤ m) (h2 : m ≤ 1000) :
    Calls Try.prog 34 #[.int .i64 a, .int .i64 (m : Int)] w fun e w' => ∃ r : Nat, r < m ∧ e = .returned (.int .i64 (r : Int)) ∧ w' = w := by
  have hd : decide ((m : Int) < 1) = false := decide_eq_false (by omega)
  have hz : ((m : Int) == 0) = false := beq_eq_false_iff_ne.2 (by omega)
  have hz' : ¬ (m : Int) = 0 := by omega
  go_enter Try.func34, Try.ntmps34
  go_wp2_with fail
  go_ret
  have b1 : a.tmod (m : Int) < (m : Int) := Int.tmod_lt_of_pos a (by omega)
  have b2 : -(m : Int) < a.tmod (m : Int) := Int.lt_tmod_of_pos a (by omega)
  have e1 : wrap64 (a.tmod (m : Int) + (m : Int)) = a.tmod (m : Int) + (m : Int) := by
    generalize a.tmod (m : Int) = t at *
    unfold wrap64
    omega
  have e2 : (a.tmod (m : Int) + (m : Int)).tmod (m : Int) = (a.tmod (m : Int) + (m : Int)) % (m : Int) := Int.tmod_eq_emod_of_nonneg (by omega)
  have b3 : 0 ≤ (a.tmod (m : Int) + (m : Int)) % (m : Int) := Int.emod_nonneg _ (by omega)
  have b4 : (a.tmod (m : Int) + (m : Int)) % (m : Int) < (m : Int) := Int.emod_lt_of_pos _ (by omega)
  refine ⟨((a.tmod (m : Int) + (m : Int)) % (m : Int)).toNat, by omega, ?_, rfl⟩
  show Ending.returned (Value.int .i64 ((wrap64 (a.tmod (m : Int) + (m : Int))).tmod (m : Int))) = _
  rw [e1, e2, Int.toNat_of_nonneg b3]

end Go.Proofs.Ytanljohnmaokeaa
