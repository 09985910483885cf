/- rising: a list in order, each once. -/
import Derived.Test.YthaenobciefjiaaDoorA5
import Derived.Test.YthaenobciefjiaaDoorA1
import Derived.Test.YthaenobciefjiaaDoorShelf
import Derived.Sort.OwnSortedInts
import Derived.Sort.OwnSorted
namespace Go.Proofs.YthaenobciefjiaaDoor
open Go.RowKit Go.Sort Go.Shelf

namespace Rs
/-- The first ones of a row. -/
theorem row_take {w : World} {base g n cap : Nat} {e : TypeId} {xs : List Value} (h : w.ownsRow base e 1 (.slice (some ⟨g, 0, none⟩) n cap) n xs) (k : Nat) (hk : k ≤ n) : w.ownsRow base e 1 (.slice (some ⟨g, 0, none⟩) k cap) k (xs.take k) := by
  obtain ⟨h1, h2⟩ := h
  refine ⟨by rw [List.length_take, h1]; omega, ?_⟩
  rcases h2 with ⟨h2, _⟩ | ⟨g', cap', cur, e', hb, hg, q1, q2, q3, q4⟩
  · cases h2
  · injection e' with e1 e2 e3
    subst e3
    injection e1 with e1
    injection e1 with e1
    subst e1
    refine Or.inr ⟨g, cap, cur, rfl, hb, hg, by omega, q2, q3, ?_⟩
    rw [← q4, List.take_take]
    congr 1
    omega
theorem grown_trans {a b c : World} {r : Option Nat} (h : a.grownBy b r) (k : b.grownBy c r) : a.grownBy c r :=
  ⟨k.os.trans h.os, k.tape.trans h.tape, k.output.trans h.output, Nat.le_trans h.size k.size, fun i hi hr => (k.block i (Nat.lt_of_lt_of_le hi h.size) hr).trans (h.block i hi hr)⟩
theorem grow_none (w : World) : grow w #[] = w := by unfold grow; rw [Array.append_empty]
end Rs

set_option maxRecDepth 100000 in
set_option maxHeartbeats 1000000 in
theorem risingI_any (w : World) (base : Nat) (v : Value) (l : List Int) (hrow : Hid (w.ownsRow base 3 1 v l.length (l.map (Value.int .i64)))) (hlen : Hid (l.length < 1000000000000)) :
    Calls Tryd.prog 38 #[v] w fun e w' => ∃ v', e = .returned v' ∧ w'.ownsRow base 3 1 v' (Rs.ints l).length ((Rs.ints l).map (Value.int .i64)) ∧ v'.ownBlock = v.ownBlock ∧ w.grownBy w' v.ownBlock ∧ (v' = .slice none 0 0 ↔ v = .slice none 0 0) := by
  obtain ⟨h1, h2⟩ := hrow.out
  rcases h2 with ⟨rfl, h0⟩ | ⟨g, cap, cur, rfl, hb, hg, q1, q2, q3, q4⟩
  · have hl : l = [] := List.length_eq_zero_iff.1 h0
    have HF : Hid (Rs.ints l = []) := Mp.hid (by rw [hl]; exact Rs.ints_nil)
    have cS := Any.slices_Sort_int_none Tryd.lays189 none 0
    have cC := Any.slices_Compact_int_empty Tryd.lays2n20 none 0
    clear h1 h0 hl
    go_enter Tryd.func38, Tryd.ntmps38
    go_wp2_with (first | (go_at_call 50; refine (cS _).mono ?_; rintro e w' ⟨rfl, rfl⟩) | (go_at_call 51; refine (cC _).mono ?_; rintro e w' ⟨rfl, rfl⟩))
    go_ret
    refine ⟨_, rfl, ?_, rfl, World.grownBy.refl _ _, ⟨(fun _ => trivial), (fun _ => rfl)⟩⟩
    rw [HF.out]
    exact ⟨rfl, Or.inl ⟨rfl, rfl⟩⟩
  · simp only [Nat.mul_one] at q3 q4 h1
    have hH : Holds (Value.int .i64) w g 0 l.toArray := holds_of_blockI hg q4
    have hlt : g < w.heap.size := (Array.getElem?_eq_some_iff.1 hg).1
    have hln := hlen.out
    have cS := Any.slices_Sort_int Tryd.lays189 g 0 cap l w hH hlt (by omega)
    obtain ⟨ms, hms⟩ : ∃ ms, ms = l.mergeSort fun x y => decide (x ≤ y) := ⟨_, rfl⟩
    have hml : ms.length = l.length := by rw [hms]; exact List.length_mergeSort l
    rw [← hms] at cS
    have HC : Hid (Rs.ints l = Lib.compact ms) := Mp.hid (by rw [hms]; rfl)
    have HLE : Hid ((Lib.compact ms).length ≤ l.length) := Mp.hid (by
      rw [← hml]; unfold Lib.compact Lib.compactUpTo
      rw [List.length_map]; exact Nat.le_trans (List.length_filter_le _ _) (by simp))
    have HW1 : ∀ (nq : Nat) (os : Array Obj), Hid (∃ cur1, (grow (putRow (Value.int .i64) (Sort.ahead w nq) g 0 ms.toArray) os).heap[g]? = some (.cells cur1 3 (0, 0)) ∧ cur1.size = cap ∧ cur1.toList.take ms.length = ms.map (Value.int .i64)) := fun nq os => Mp.hid (by
      have hr := ownsRow_sortedI (n := nq) (os := os) (ss := l) (ts := ms) (base := base) (cap := cap) hml hb hg q1 q2 (by rw [Nat.mul_one]; exact q3)
      obtain ⟨_, hr2⟩ := hr
      rcases hr2 with ⟨e, _⟩ | ⟨g', cap', cur', e', hb', hg', p1, p2, p3, p4⟩
      · cases e
      · injection e' with e1 e2 e3
        subst e3
        injection e1 with e1
        injection e1 with e1
        subst e1
        refine ⟨cur', hg', by rw [Nat.mul_one] at p3; exact p3, ?_⟩
        rw [Nat.mul_one] at p4
        rw [hml]; exact p4)
    clear hms h1
    have HHML := Mp.hid hml
    have HQ := Mp.hid (And.intro q1 (And.intro q2 hb))
    have hms2 : ms.length = l.length := hml
    clear q1 q2 q3 q4 hg hH hlt hb hml
    go_enter Tryd.func38, Tryd.ntmps38
    go_wp2_with (first | (go_at_call 50; refine cS.mono ?_; rintro e w1 ⟨rfl, nq, os, hw0⟩; have HW0 := Mp.hid hw0; clear hw0))
    have hw1 := HW0.out
    obtain ⟨cur1, g1, g2, g3⟩ := (HW1 nq os).out
    have hgr1 := grownBy_sortedI (w := w) (g := g) (n := nq) (os := os) ms.toArray
    rw [← hw1] at g1 hgr1
    have HG1 := Mp.hid (And.intro g1 (And.intro g2 g3))
    have HGR := Mp.hid hgr1
    clear HW1 hw1 HW0 cS hgr1 g1 g2 g3
    have cC := Any.slices_Compact_int Tryd.lays2n20 g 0 cap ms w1 (holds_of_blockI HG1.out.1 HG1.out.2.2) (by omega) (by have := HQ.out.1; omega)
    rw [hms2] at cC
    clear hms2
    go_wp2_with fail
    refine cC.mono ?_
    rintro e w2 ⟨rfl, nq2, hw0⟩
    have HW0 := Mp.hid hw0
    clear hw0
    go_wp2
    have hw2 := HW0.out
    go_ret
    obtain ⟨zs, hzs⟩ : ∃ zs, zs = Lib.compact ms ++ List.replicate (l.length - (Lib.compact ms).length) 0 := ⟨_, rfl⟩
    have hzl : zs.length = l.length := by rw [hzs, List.length_append, List.length_replicate]; have := HLE.out; omega
    have hw2' : w2 = grow (putRow (Value.int .i64) (Sort.ahead w1 nq2) g 0 zs.toArray) #[] := by rw [hw2, hzs, Rs.grow_none]
    have hr := ownsRow_sortedI (w := w1) (n := nq2) (os := #[]) (ss := l) (ts := zs) (base := base) (cap := cap) hzl HQ.out.2.2 HG1.out.1 HQ.out.1 HQ.out.2.1 (by rw [Nat.mul_one]; exact HG1.out.2.1)
    rw [← hw2'] at hr
    have hr2 := Rs.row_take hr (Lib.compact ms).length HLE.out
    have hz2 : (zs.map (Value.int .i64)).take (Lib.compact ms).length = (Lib.compact ms).map (Value.int .i64) := by
      rw [← List.map_take, hzs, List.take_left']
      rfl
    rw [hz2] at hr2
    rw [HC.out]
    have hgr2 := grownBy_sortedI (w := w1) (g := g) (n := nq2) (os := #[]) zs.toArray
    rw [← hw2'] at hgr2
    exact ⟨_, rfl, hr2, rfl, Rs.grown_trans HGR.out hgr2, ⟨(fun e => nomatch e), (fun e => nomatch e)⟩⟩

set_option maxRecDepth 100000 in
set_option maxHeartbeats 1000000 in
theorem risingS_any (w : World) (base : Nat) (v : Value) (l : List (List UInt8)) (hrow : Hid (w.ownsRow base 9 1 v l.length (l.map encStr))) (hlen : Hid (l.length < 1000000000000)) :
    Calls Tryd.prog 44 #[v] w fun e w' => ∃ v', e = .returned v' ∧ w'.ownsRow base 9 1 v' (Rs.texts l).length ((Rs.texts l).map encStr) ∧ v'.ownBlock = v.ownBlock ∧ w.grownBy w' v.ownBlock ∧ (v' = .slice none 0 0 ↔ v = .slice none 0 0) := by
  obtain ⟨h1, h2⟩ := hrow.out
  rcases h2 with ⟨rfl, h0⟩ | ⟨g, cap, cur, rfl, hb, hg, q1, q2, q3, q4⟩
  · have hl : l = [] := List.length_eq_zero_iff.1 h0
    have HF : Hid (Rs.texts l = []) := Mp.hid (by rw [hl]; exact Rs.texts_nil)
    have cS := Any.slices_Sort_string_none Tryd.lays190 none 0
    have cC := Any.slices_Compact_string_empty Tryd.lays194 none 0
    clear h1 h0 hl
    go_enter Tryd.func44, Tryd.ntmps44
    go_wp2_with (first | (go_at_call 56; refine (cS _).mono ?_; rintro e w' ⟨rfl, rfl⟩) | (go_at_call 57; refine (cC _).mono ?_; rintro e w' ⟨rfl, rfl⟩))
    go_ret
    refine ⟨_, rfl, ?_, rfl, World.grownBy.refl _ _, ⟨(fun _ => trivial), (fun _ => rfl)⟩⟩
    rw [HF.out]
    exact ⟨rfl, Or.inl ⟨rfl, rfl⟩⟩
  · simp only [Nat.mul_one] at q3 q4 h1
    have hH : Holds encStr w g 0 l.toArray := holds_of_block hg q4
    have hlt : g < w.heap.size := (Array.getElem?_eq_some_iff.1 hg).1
    have hln := hlen.out
    have cS := Any.slices_Sort_string Tryd.lays190 g 0 cap l w hH hlt (by omega)
    obtain ⟨ms, hms⟩ : ∃ ms, ms = l.mergeSort fun x y => decide (x ≤ y) := ⟨_, rfl⟩
    have hml : ms.length = l.length := by rw [hms]; exact List.length_mergeSort l
    rw [← hms] at cS
    have HC : Hid (Rs.texts l = Lib.compact ms) := Mp.hid (by rw [hms]; rfl)
    have HLE : Hid ((Lib.compact ms).length ≤ l.length) := Mp.hid (by
      rw [← hml]; unfold Lib.compact Lib.compactUpTo
      rw [List.length_map]; exact Nat.le_trans (List.length_filter_le _ _) (by simp))
    have HW1 : ∀ (nq : Nat) (os : Array Obj), Hid (∃ cur1, (grow (putRow encStr (Sort.ahead w nq) g 0 ms.toArray) os).heap[g]? = some (.cells cur1 9 (0, 0)) ∧ cur1.size = cap ∧ cur1.toList.take ms.length = ms.map encStr) := fun nq os => Mp.hid (by
      have hr := ownsRow_sorted (n := nq) (os := os) (ss := l) (ts := ms) (base := base) (cap := cap) hml hb hg q1 q2 (by rw [Nat.mul_one]; exact q3)
      obtain ⟨_, hr2⟩ := hr
      rcases hr2 with ⟨e, _⟩ | ⟨g', cap', cur', e', hb', hg', p1, p2, p3, p4⟩
      · cases e
      · injection e' with e1 e2 e3
        subst e3
        injection e1 with e1
        injection e1 with e1
        subst e1
        refine ⟨cur', hg', by rw [Nat.mul_one] at p3; exact p3, ?_⟩
        rw [Nat.mul_one] at p4
        rw [hml]; exact p4)
    clear hms h1
    have HHML := Mp.hid hml
    have HQ := Mp.hid (And.intro q1 (And.intro q2 hb))
    have hms2 : ms.length = l.length := hml
    clear q1 q2 q3 q4 hg hH hlt hb hml
    go_enter Tryd.func44, Tryd.ntmps44
    go_wp2_with (first | (go_at_call 56; refine cS.mono ?_; rintro e w1 ⟨rfl, nq, os, hw0⟩; have HW0 := Mp.hid hw0; clear hw0))
    have hw1 := HW0.out
    obtain ⟨cur1, g1, g2, g3⟩ := (HW1 nq os).out
    have hgr1 := grownBy_sorted (w := w) (g := g) (n := nq) (os := os) ms.toArray
    rw [← hw1] at g1 hgr1
    have HG1 := Mp.hid (And.intro g1 (And.intro g2 g3))
    have HGR := Mp.hid hgr1
    clear HW1 hw1 HW0 cS hgr1 g1 g2 g3
    have cC := Any.slices_Compact_string Tryd.lays194 g 0 cap ms w1 (holds_of_block HG1.out.1 HG1.out.2.2) (by omega) (by have := HQ.out.1; omega)
    rw [hms2] at cC
    clear hms2
    go_wp2_with fail
    refine cC.mono ?_
    rintro e w2 ⟨rfl, nq2, hw0⟩
    have HW0 := Mp.hid hw0
    clear hw0
    go_wp2
    have hw2 := HW0.out
    go_ret
    obtain ⟨zs, hzs⟩ : ∃ zs, zs = Lib.compact ms ++ List.replicate (l.length - (Lib.compact ms).length) [] := ⟨_, rfl⟩
    have hzl : zs.length = l.length := by rw [hzs, List.length_append, List.length_replicate]; have := HLE.out; omega
    have hw2' : w2 = grow (putRow encStr (Sort.ahead w1 nq2) g 0 zs.toArray) #[] := by rw [hw2, hzs, Rs.grow_none]
    have hr := ownsRow_sorted (w := w1) (n := nq2) (os := #[]) (ss := l) (ts := zs) (base := base) (cap := cap) hzl HQ.out.2.2 HG1.out.1 HQ.out.1 HQ.out.2.1 (by rw [Nat.mul_one]; exact HG1.out.2.1)
    rw [← hw2'] at hr
    have hr2 := Rs.row_take hr (Lib.compact ms).length HLE.out
    have hz2 : (zs.map encStr).take (Lib.compact ms).length = (Lib.compact ms).map encStr := by
      rw [← List.map_take, hzs, List.take_left']
      rfl
    rw [hz2] at hr2
    rw [HC.out]
    have hgr2 := grownBy_sorted (w := w1) (g := g) (n := nq2) (os := #[]) zs.toArray
    rw [← hw2'] at hgr2
    exact ⟨_, rfl, hr2, rfl, Rs.grown_trans HGR.out hgr2, ⟨(fun e => nomatch e), (fun e => nomatch e)⟩⟩

end Go.Proofs.YthaenobciefjiaaDoor
