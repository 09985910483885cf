/- rising walked; a row of whole numbers sorted. -/
import Derived.Test.YthikdfcndppoaaaWa4
import Derived.Sort.OwnSortedInts
namespace Go.Proofs.Ythikdfcndppoaaa
open Go.RowKit Go.Sort

namespace Mm
theorem Own.holds {w : World} {base g n c : Nat} {l : List Int} (h : Own w base 3 (.slice (some ⟨g, 0, none⟩) n c) (its l)) : Holds (Value.int .i64) w g 0 l.toArray ∧ g < w.heap.size ∧ base ≤ g ∧ n = l.length ∧ l.length ≤ c ∧ c ≤ maxLen := by
  obtain ⟨h0, ⟨e, _⟩ | ⟨g', cap, cur, e, hb, hg, q1, q2, q3, q4⟩⟩ := h
  · cases e
  · cases e
    rw [its_len] at q1 q4 ⊢
    rw [Nat.mul_one] at q4
    exact ⟨holds_of_blockI hg q4, heapLt hg, hb, rfl, q1, q2⟩
/-- Behind slices.Sort. -/
theorem Own.sorted {w : World} {base g n c : Nat} {l ts : List Int} (h : Own w base 3 (.slice (some ⟨g, 0, none⟩) n c) (its l)) (hl : ts.length = l.length) (q : Nat) (os : Array Obj) :
    Own (grow (putRow (Value.int .i64) (Sort.ahead w q) g 0 ts.toArray) os) base 3 (.slice (some ⟨g, 0, none⟩) n c) (its ts) ∧ w.grownBy (grow (putRow (Value.int .i64) (Sort.ahead w q) g 0 ts.toArray) os) (some g) := by
  obtain ⟨h0, ⟨e, _⟩ | ⟨g', cap, cur, e, hb, hg, q1, q2, q3, q4⟩⟩ := h
  · cases e
  · cases e
    rw [its_len] at q1 ⊢
    refine ⟨?_, grownBy_sortedI ts.toArray⟩
    have := ownsRow_sortedI (w := w) (base := base) (g := g) (cap := c) (n := q) (e := 3) (os := os) (cur := cur) (ss := l) (ts := ts) hl hb hg q1 q2 q3
    unfold Own
    rw [its_len, hl]
    exact this
theorem grBel {B : Nat} {w w1 : World} {r : Option Nat} (hB : B ≤ w.heap.size) (hg : w.grownBy w1 r) (hr : ∀ g, r = some g → B ≤ g) : Below B w w1 := (Below.refl _ _).grown hg hB hr
theorem its_set (l : List Int) (i : Nat) (y : Int) : (its l).set i (.int .i64 y) = its (l.set i y) := by unfold its; rw [List.map_set]
theorem nodesOf_len (ns : List Int) (m : List Nat) : (Kn.nodesOf ns m).length = m.length := by unfold Kn.nodesOf; rw [List.length_mergeSort, List.length_map]
end Mm

set_option maxRecDepth 100000 in
set_option maxHeartbeats 2000000 in
theorem rising_any (h : Nat) (w : World) (tag : Nat → Option Mm.Lb) (p : Nat) (ns : List Int) (E : Nat → List Nat) (sv : List Value) (s : Tj.S) (z : Mm.Sl) (kv : List Value) (b o c n : Nat) (m : List Nat) (hT : Hid (Mm.Wk h w tag p ns s z kv)) (hG : Hid (Mm.Gr h w z.vN z.vE ns E sv))
    (hn : Hid (n = m.length)) (hn1 : n < 100000) (hnc : n ≤ c) (hM : Hid (∀ (j x : Nat), m[j]? = some x → x < ns.length ∧ w.cell? ⟨b, o + j, none⟩ = some (.int .i64 (x : Int)))) (hb : Hid (b < w.heap.size)) :
    Calls Try.prog 57 #[.pointer (some ⟨p, 0, none⟩), .slice (some ⟨b, o, none⟩) n c] w fun e w' => ∃ g, e = .returned (.slice (some ⟨g, 0, none⟩) n n) ∧ w.heap.size ≤ g ∧
      Mm.Own w' w.heap.size 3 (.slice (some ⟨g, 0, none⟩) n n) (Mm.its (Kn.nodesOf ns m)) ∧ Below w.heap.size w w' := by
  go_enter Try.func57, Try.ntmps57
  go_wp2_with (first | (at_make; refine Mm.mkI _ rfl _ _ rfl n rfl rfl (by omega) ?_; intro w1 hown1 hg1 hs1))
  have HB1 : Hid (Below w.heap.size w w1) := Mm.hid (Mm.grBel (Nat.le_refl _) hg1 (fun g e => nomatch e))
  have HO1 := Mm.hid hown1
  have HS1 := Mm.hid hs1
  clear hown1 hg1 hs1
  go_loopw [13] (fun vi wr => ∃ (k : Nat) (X : List Int), k ≤ n ∧ vi = .int .i64 (k : Int) ∧ Hid (X.length = n ∧ ∀ j x, j < k → m[j]? = some x → X[j]? = some (ns.getD x 0)) ∧ Hid (Mm.Own wr w.heap.size 3 (.slice (some ⟨w.heap.size, 0, none⟩) n n) (Mm.its X)) ∧ Hid (Below w.heap.size w wr) ∧ Hid (w.heap.size < wr.heap.size)) (fun vi _ => n - (RowKit.intOf vi).toNat)
  case atStart => exact ⟨0, _, by omega, rfl, Mm.hid ⟨by simp, fun j x h => absurd h (Nat.not_lt_zero j)⟩, HO1, HB1, HS1⟩
  case round =>
    obtain ⟨k, X, hk, rfl, HX, HO, HB, HS⟩ := hrel
    rename World => wr
    by_cases hlt : k < n
    · obtain ⟨x, hx⟩ : ∃ x, m[k]? = some x := ⟨_, List.getElem?_eq_getElem (by rw [← hn.out]; exact hlt)⟩
      obtain ⟨hxn, hxc⟩ := hM.out k x hx
      have c0 := (Mm.belAt HB.out (o + k) hb.out).trans hxc
      have HXX := Mm.hid (And.intro hx hxn)
      have hWr := hT.out.below HB.out
      have hGr := hG.out.below (HB.out.mono (by have := hG.out; exact Nat.le_refl _) |>.mono (Nat.le_of_lt (Nat.lt_of_le_of_lt (hT.out.ge hT.out.tp) hT.out.lt)))
      obtain ⟨gN, cN, eN, hcN, hc1, -, hl1⟩ := hGr.N.at (Mm.its_at (List.getElem?_eq_getElem hxn))
      have hc2 := hWr.at 0 rfl
      rw [eN] at hc2
      simp only [Mm.its_len] at hc2 hcN hl1
      obtain ⟨y, hy⟩ : ∃ y, y = ns[x] := ⟨_, rfl⟩
      rw [← hy] at hc1
      have HY : Hid (ns.getD x 0 = y) := Mm.hid (by rw [hy, List.getD_eq_getElem?_getD, List.getElem?_eq_getElem hxn]; rfl)
      obtain ⟨c3, f3⟩ := HO.out.cell (i := k) (u := .int .i64 (X[k]'(by rw [HX.out.1]; exact hlt))) (Mm.its_at (List.getElem?_eq_getElem _))
      generalize X[k]'(by rw [HX.out.1]; exact hlt) = old at c3
      clear hx hxn hxc hWr hGr eN hy
      go_wp2_with fail
      have hO2 := HO.out.set k (.int .i64 y)
      rw [Mm.its_set] at hO2
      refine ⟨⟨k + 1, X.set k y, by omega, by go_num, ⟨by simpa using HX.out.1, fun j x' hj hx' => ?_⟩, hO2, HB.out.setCell (Nat.le_refl _) _, Mm.hid (by have := HS.out; simpa using this)⟩, by simp [RowKit.intOf]; omega⟩
      by_cases e : j = k
      · subst e
        rw [HXX.out.1] at hx'
        injection hx' with hx'
        rw [List.getElem?_set_self (by rw [HX.out.1]; exact hlt), ← hx', HY.out]
      · rw [List.getElem?_set_ne (fun h => e h.symm)]
        exact HX.out.2 j x' (by omega) hx'
    · obtain rfl : k = n := by omega
      have hXm : X = m.map (fun x => ns.getD x 0) := by
        apply List.ext_getElem?
        intro j
        rw [List.getElem?_map]
        by_cases hj : j < k
        · obtain ⟨x, hx⟩ : ∃ x, m[j]? = some x := ⟨_, List.getElem?_eq_getElem (by rw [← hn.out]; exact hj)⟩
          rw [HX.out.2 j x hj hx, hx]; rfl
        · rw [List.getElem?_eq_none (by rw [HX.out.1]; omega), List.getElem?_eq_none (l := m) (by rw [← hn.out]; omega)]; rfl
      obtain ⟨q1, q2, q3, q4, q5, q6⟩ := HO.out.holds
      have cS := Any.slices_Sort_int Try.lays189 w.heap.size 0 k X wr q1 q2 (by omega)
      have hML : (X.mergeSort fun x y => decide (x ≤ y)).length = X.length := List.length_mergeSort X
      have HXN : Hid (Kn.nodesOf ns m = X.mergeSort fun x y => decide (x ≤ y)) := Mm.hid (by rw [hXm]; rfl)
      obtain ⟨ms, hms⟩ : ∃ ms, ms = X.mergeSort fun x y => decide (x ≤ y) := ⟨_, rfl⟩
      rw [← hms] at cS hML HXN
      rw [← q4] at cS
      have HMS := Mm.hid hML
      clear q1 q2 q3 q4 q5 q6 hXm hML hms
      go_wp2_with (go_at_call 25; refine cS.mono ?_; rintro e w2 ⟨rfl, nq, os, hw0⟩; have HW0 := Mm.hid hw0; clear hw0)
      go_ret
      obtain ⟨r1, r2⟩ := HO.out.sorted HMS.out nq os
      rw [← HW0.out] at r1 r2
      refine ⟨w.heap.size, rfl, Nat.le_refl _, ?_, HB.out.grown r2 HB.out.size (fun g e => by injection e with e; omega)⟩
      rw [HXN.out]
      exact r1
end Go.Proofs.Ythikdfcndppoaaa
