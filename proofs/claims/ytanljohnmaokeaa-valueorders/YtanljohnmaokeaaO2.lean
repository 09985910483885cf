/- The reference's Ahead and Same; the statements' Mod. -/
import Derived.Test.YtanljohnmaokeaaN2
import Derived.Test.YtanljohnmaokeaaO1
import Derived.Test.YtanljohnmaokeaaC1
namespace Go.Proofs.Ytanljohnmaokeaa
open Go.RowKit
attribute [local go_sem] Fl.run_store_float Try.float64bits Try.float64frombits

/-- Two values lie there. -/
def Vl.PairS (b1 o1 b2 o2 : Nat) (v u : Vl.V) (W w' : World) : Prop :=
  w'.cell? ⟨b1, o1, none⟩ = some (.int .i64 v.k) ∧ w'.cell? ⟨b1, o1 + 1, none⟩ = some (.int .i64 v.n) ∧ w'.cell? ⟨b1, o1 + 2, none⟩ = some (.float .f64 v.f) ∧ w'.cell? ⟨b1, o1 + 3, none⟩ = some (.string v.s) ∧
  w'.cell? ⟨b2, o2, none⟩ = some (.int .i64 u.k) ∧ w'.cell? ⟨b2, o2 + 1, none⟩ = some (.int .i64 u.n) ∧ w'.cell? ⟨b2, o2 + 2, none⟩ = some (.float .f64 u.f) ∧ w'.cell? ⟨b2, o2 + 3, none⟩ = some (.string u.s) ∧
  b1 < w'.heap.size ∧ b2 < w'.heap.size ∧ Below W.heap.size W w'
theorem Vl.pairDrew {b1 o1 b2 o2 : Nat} {v u : Vl.V} {W w' : World} (h : Vl.PairS b1 o1 b2 o2 v u W w') : Vl.PairS b1 o1 b2 o2 v u W w'.drew := by
  obtain ⟨h0, h1, h2, h3, h4, h5, h6, h7, h8, h9, h10⟩ := h
  exact ⟨h0, h1, h2, h3, h4, h5, h6, h7, h8, h9, Vl.bdrewN h10 1⟩
theorem Vl.pairKeep {b1 o1 b2 o2 : Nat} {v u : Vl.V} {W w0 w1 : World} (hb : Below w0.heap.size w0 w1) (h : Vl.PairS b1 o1 b2 o2 v u W w0) : Vl.PairS b1 o1 b2 o2 v u W w1 := by
  obtain ⟨h0, h1, h2, h3, h4, h5, h6, h7, h8, h9, h10⟩ := h
  have hm := (Vl.bcell hb).1
  refine ⟨?_, ?_, ?_, ?_, ?_, ?_, ?_, ?_, Nat.lt_of_lt_of_le h8 hb.size, Nat.lt_of_lt_of_le h9 hb.size, Vl.btr h10 hb⟩
  · rw [hm _ _ h8]; exact h0
  · rw [hm _ _ h8]; exact h1
  · rw [hm _ _ h8]; exact h2
  · rw [hm _ _ h8]; exact h3
  · rw [hm _ _ h9]; exact h4
  · rw [hm _ _ h9]; exact h5
  · rw [hm _ _ h9]; exact h6
  · rw [hm _ _ h9]; exact h7
theorem Vl.pairB {b1 o1 b2 o2 : Nat} {v u : Vl.V} {W w' : World} (h : Vl.PairS b1 o1 b2 o2 v u W w') : Below W.heap.size W w' := h.2.2.2.2.2.2.2.2.2.2
theorem Vl.btwo' {w w' : World} {o p : Obj} (h : w' = (w.alloc o).alloc p) : Below w.heap.size w w' := by rw [h]; exact Vl.bal (Vl.bal (Below.refl _ _) _) _

set_option maxRecDepth 100000 in
set_option maxHeartbeats 2000000 in
theorem ahead_any (p1 p2 : Option Addr) (n1 n2 c1 c2 : Nat) (xs ys : List Vl.V) (w : World) (hx : xs.length = n1) (hy : ys.length = n2) (hl1 : n1 ≤ 100000) (hl2 : n2 ≤ 100000) (hn1 : n1 ≤ c1) (hn2 : n2 ≤ c2) (H1 : Hid (Vl.RowIn w p1 xs)) (H2 : Hid (Vl.RowIn w p2 ys)) :
    Calls Try.prog 36 #[.slice p1 n1 c1, .slice p2 n2 c2] w fun e w' => e = .returned (.bool (decide (Vl.cmpL Vl.cmpV xs ys < 0))) ∧ Below w.heap.size w w' := by
  have HX := Vl.hid hx
  have HY := Vl.hid hy
  clear hx hy
  go_enter Try.func36, Try.ntmps36
  go_wp2_with fail
  go_loopw [5] (fun vi wr => ∃ k : Nat, k ≤ n1 ∧ k ≤ n2 ∧ vi = .int .i64 (k : Int) ∧ Hid (∀ j (h1 : j < xs.length) (h2 : j < ys.length), j < k → Vl.cmpV xs[j] ys[j] = 0) ∧ Hid (Below w.heap.size w wr)) (fun vi _ => n1 - (RowKit.intOf vi).toNat)
  case atStart => exact ⟨0, by omega, by omega, rfl, fun j _ _ h => absurd h (Nat.not_lt_zero j), Below.refl _ _⟩
  case round =>
    obtain ⟨k, hk1, hk2, rfl, HI, HB⟩ := hrel
    rename World => wr
    by_cases hlt : k < n1
    · by_cases hm : k < n2
      · obtain ⟨v, hv⟩ : ∃ v, xs[k]? = some v := ⟨xs[k]'(by rw [HX.out]; exact hlt), List.getElem?_eq_getElem _⟩
        obtain ⟨u, hu⟩ : ∃ u, ys[k]? = some u := ⟨ys[k]'(by rw [HY.out]; exact hm), List.getElem?_eq_getElem _⟩
        obtain ⟨b1, o1, hp1, hb1, hr1⟩ := H1.out.at' hv
        obtain ⟨b2, o2, hp2, hb2, hr2⟩ := H2.out.at' hu
        obtain ⟨p0, p1, p2, p3⟩ := hr1.below hb1 HB.out k v hv
        obtain ⟨q0, q1, q2, q3⟩ := hr2.below hb2 HB.out k u hu
        have HS : Hid (Vl.PairS b1 (o1 + k * 4) b2 (o2 + k * 4) v u wr wr) := Vl.hid ⟨p0, p1, p2, p3, q0, q1, q2, q3, Nat.lt_of_lt_of_le hb1 HB.out.size, Nat.lt_of_lt_of_le hb2 HB.out.size, Below.refl _ _⟩
        have HV := Vl.hid hv
        have HU := Vl.hid hu
        clear hr1 hr2 hv hu p0 p1 p2 p3 q0 q1 q2 q3
        subst hp1 hp2
        obtain ⟨z, HZ⟩ : ∃ z, Hid (Vl.cmpV v u = z) := ⟨_, Vl.hid rfl⟩
        have hki : (k : Int) < (n2 : Int) := by omega
        cases ht : (z != 0)
        · go_wp2_with fail
          go_region_held3 (fun w' =>
            w'.cell? ⟨b1, o1 + k * 4, none⟩ = some (.int .i64 v.k) ∧ w'.cell? ⟨b1, o1 + k * 4 + 1, none⟩ = some (.int .i64 v.n) ∧ w'.cell? ⟨b1, o1 + k * 4 + 2, none⟩ = some (.float .f64 v.f) ∧ w'.cell? ⟨b1, o1 + k * 4 + 3, none⟩ = some (.string v.s) ∧
            w'.cell? ⟨b2, o2 + k * 4, none⟩ = some (.int .i64 u.k) ∧ w'.cell? ⟨b2, o2 + k * 4 + 1, none⟩ = some (.int .i64 u.n) ∧ w'.cell? ⟨b2, o2 + k * 4 + 2, none⟩ = some (.float .f64 u.f) ∧ w'.cell? ⟨b2, o2 + k * 4 + 3, none⟩ = some (.string u.s) ∧
            b1 < w'.heap.size ∧ b2 < w'.heap.size ∧ Below wr.heap.size wr w')
            (first | exact Vl.pairDrew HS.out | exact Vl.pairKeep hb (by assumption))
            (first | (go_at_call 16; refine (refCmpV_any v u _).mono ?_; rintro e w' ⟨rfl, hq⟩; have hb := Vl.btwo' hq; clear hq; rw [HZ.out]))
          go_wp2_with fail
          exact ⟨⟨k + 1, by omega, by omega, by go_num, Vl.cmpL_go HI.out HV.out HU.out (by rw [HZ.out]; exact ht), Vl.btr HB.out (Vl.pairB (b1 := b1) (b2 := b2) (v := v) (u := u) (by assumption))⟩, by simp [RowKit.intOf]; omega⟩
        · go_wp2_with fail
          go_region_held3 (fun w' =>
            w'.cell? ⟨b1, o1 + k * 4, none⟩ = some (.int .i64 v.k) ∧ w'.cell? ⟨b1, o1 + k * 4 + 1, none⟩ = some (.int .i64 v.n) ∧ w'.cell? ⟨b1, o1 + k * 4 + 2, none⟩ = some (.float .f64 v.f) ∧ w'.cell? ⟨b1, o1 + k * 4 + 3, none⟩ = some (.string v.s) ∧
            w'.cell? ⟨b2, o2 + k * 4, none⟩ = some (.int .i64 u.k) ∧ w'.cell? ⟨b2, o2 + k * 4 + 1, none⟩ = some (.int .i64 u.n) ∧ w'.cell? ⟨b2, o2 + k * 4 + 2, none⟩ = some (.float .f64 u.f) ∧ w'.cell? ⟨b2, o2 + k * 4 + 3, none⟩ = some (.string u.s) ∧
            b1 < w'.heap.size ∧ b2 < w'.heap.size ∧ Below wr.heap.size wr w')
            (first | exact Vl.pairDrew HS.out | exact Vl.pairKeep hb (by assumption))
            (first | (go_at_call 16; refine (refCmpV_any v u _).mono ?_; rintro e w' ⟨rfl, hq⟩; have hb := Vl.btwo' hq; clear hq; rw [HZ.out]))
          go_wp2_with fail
          go_ret
          exact ⟨by rw [← Vl.cmpL_stop HI.out HV.out HU.out (by rw [HZ.out]; exact ht), HZ.out]; rfl, Vl.btr HB.out (Vl.pairB (b1 := b1) (b2 := b2) (v := v) (u := u) (by assumption))⟩
      · obtain rfl : k = n2 := by omega
        have hki : ¬ (n1 : Int) < (k : Int) := by omega
        have hkd : decide ((n1 : Int) < (k : Int)) = false := decide_eq_false hki
        go_wp2_with fail
        go_ret
        exact ⟨by rw [Vl.cmpL_more HI.out (by rw [HX.out]; exact hlt) HY.out]; rfl, HB.out⟩
    · obtain rfl : k = n1 := by omega
      by_cases hm : k < n2
      · have hkd : decide ((k : Int) < (n2 : Int)) = true := decide_eq_true (by omega)
        go_wp2_with fail
        go_ret
        exact ⟨by rw [Vl.cmpL_less HI.out HX.out (by rw [HY.out]; exact hm)]; rfl, HB.out⟩
      · obtain rfl : k = n2 := by omega
        go_wp2_with fail
        go_ret
        exact ⟨by rw [Vl.cmpL_same HI.out HX.out HY.out]; rfl, HB.out⟩

theorem Vl.cmpL_self (xs : List Vl.V) : Vl.cmpL Vl.cmpV xs xs = 0 := Vl.cmpV_ok.list.self xs

set_option maxHeartbeats 1000000 in
theorem refSame_same (p1 p2 : Option Addr) (n c1 c2 : Nat) (xs : List Vl.V) (w : World) (hx : xs.length = n) (hl : n ≤ 100000) (hn1 : n ≤ c1) (hn2 : n ≤ c2) (H1 : Hid (Vl.RowIn w p1 xs)) (H2 : Hid (Vl.RowIn w p2 xs)) :
    Calls Try.prog 35 #[.slice p1 n c1, .slice p2 n c2] w fun e w' => e = .returned (.bool true) ∧ Below w.heap.size w w' := by
  go_enter Try.func35, Try.ntmps35
  go_wp2_with fail
  refine (ahead_any p1 p2 n n c1 c2 xs xs _ hx hx hl hl hn1 hn2 H1 H2).mono ?_
  rintro e w1 ⟨rfl, hb1⟩
  rw [Vl.cmpL_self]
  have H1' := Vl.hid (H1.out.below hb1)
  have H2' := Vl.hid (H2.out.below hb1)
  have HB1 := Vl.hid hb1
  clear hb1
  go_wp2_with fail
  refine (ahead_any p2 p1 n n c2 c1 xs xs _ hx hx hl hl hn2 hn1 H2' H1').mono ?_
  rintro e w2 ⟨rfl, hb2⟩
  rw [Vl.cmpL_self]
  have HB2 := Vl.hid (Vl.btr HB1.out hb2)
  clear hb2
  go_wp2_with fail
  go_ret
  exact ⟨rfl, HB2.out⟩

end Go.Proofs.Ytanljohnmaokeaa
