/- Rows of one's own: cells set; slices.Insert, slices.Delete. -/
import Derived.Test.YtjnaafgiokdcbaaLa1
import Derived.Shelf.Spec.SlicesInsertGrow
import Derived.Lib.SliceRun
import Derived.Lib.Overlaps
namespace Go.Proofs.Ytjnaafgiokdcbaa
open Go.RowKit

namespace Mm
theorem setCells_heap {g : Nat} {e : TypeId} : ∀ (vs : List Value) (o : Nat) (w : World) (cur : Array Value), w.heap[g]? = some (.cells cur e (0, 0)) → o + vs.length ≤ cur.size → ∃ cur' : Array Value, (w.setCells g o vs).heap[g]? = some (.cells cur' e (0, 0)) ∧ cur'.size = cur.size ∧ cur'.toList = cur.toList.take o ++ vs ++ cur.toList.drop (o + vs.length)
  | [], o, w, cur, h, _ => ⟨cur, h, rfl, by simp⟩
  | v :: r, o, w, cur, h, hs => by
    have hs' : o + (r.length + 1) ≤ cur.size := by simpa using hs
    obtain ⟨cur', h1, h2, h3⟩ := setCells_heap (g := g) (e := e) r (o + 1) (w.setCell ⟨g, o, none⟩ v) (cur.setIfInBounds o v) (heap_setCell_same w g o cur e v h) (by simp; omega)
    refine ⟨cur', h1, by simpa using h2, ?_⟩
    rw [h3, Array.toList_setIfInBounds]
    have hlt : o < cur.toList.length := by simp; omega
    rw [List.take_set, List.take_add_one, List.drop_set_of_lt (by omega), List.getElem?_eq_getElem hlt]
    rw [List.set_append_right _ _ (by rw [List.length_take]; omega)]
    have e0 : o - (cur.toList.take o).length = 0 := by rw [List.length_take]; omega
    rw [e0]
    simp [Nat.add_comm, Nat.add_left_comm]
theorem setCells_other {g : Nat} : ∀ (vs : List Value) (o : Nat) (w : World) (b : Nat), b ≠ g → (w.setCells g o vs).heap[b]? = w.heap[b]?
  | [], _, _, _, _ => rfl
  | v :: r, o, w, b, h => by
    rw [World.setCells, setCells_other r (o + 1) _ b h]
    exact heap_setCell_other w _ b _ (fun e => h e)
theorem setCells_grown (g : Nat) : ∀ (vs : List Value) (o : Nat) (w : World), w.grownBy (w.setCells g o vs) (some g)
  | [], _, w => World.grownBy.refl w _
  | v :: r, o, w => by
    have h := setCells_grown g r (o + 1) (w.setCell ⟨g, o, none⟩ v)
    refine ⟨h.os, h.tape, h.output, Nat.le_trans (Nat.le_of_eq (by simp)) h.size, fun k hk hne => (h.block k (by simpa using hk) hne).trans (heap_setCell_other w _ k _ (fun e => hne (by rw [e])))⟩
theorem grTr {a b c : World} {r : Option Nat} (h : a.grownBy b r) (h2 : b.grownBy c r) : a.grownBy c r := ⟨h2.os.trans h.os, h2.tape.trans h.tape, h2.output.trans h.output, Nat.le_trans h.size h2.size, fun k hk hne => (h2.block k (Nat.lt_of_lt_of_le hk h.size) hne).trans (h.block k hk hne)⟩
theorem Own.block {w : World} {base g n c : Nat} {e : TypeId} {xs : List Value} (h : Own w base e (.slice (some ⟨g, 0, none⟩) n c) xs) : ∃ cur : Array Value, w.heap[g]? = some (.cells cur e (0, 0)) ∧ cur.size = c ∧ cur.toList.take n = xs ∧ n ≤ c ∧ c ≤ maxLen ∧ base ≤ g ∧ xs.length = n := by
  obtain ⟨_, ⟨e1, _⟩ | ⟨g', cap, cur, e1, e2, e3, e4, e5, e6, e7⟩⟩ := h
  · cases e1
  · injection e1 with e1 e8 e9
    injection e1 with e1
    injection e1 with e1
    subst e1; subst e9; subst e8
    rw [Nat.mul_one] at e6 e7
    exact ⟨cur, e3, e6, e7, e4, e5, e2, rfl⟩
theorem Own.mk {w : World} {base g m c : Nat} {e : TypeId} {ys : List Value} {cur : Array Value} (h : w.heap[g]? = some (.cells cur e (0, 0))) (hb : base ≤ g) (hs : cur.size = c) (hm : c ≤ maxLen) (hy : ys.length = m) (hmc : m ≤ c) (ht : cur.toList.take m = ys) : Own w base e (.slice (some ⟨g, 0, none⟩) m c) ys := by
  subst hy
  exact ⟨by rw [Nat.mul_one], Or.inr ⟨g, c, cur, rfl, hb, h, hmc, hm, by rw [Nat.mul_one]; exact hs, by rw [Nat.mul_one]; exact ht⟩⟩
theorem take_ins (cur : List Value) (i : Nat) (y : Value) (n : Nat) (hi : i < n) (hn : n + 1 ≤ cur.length) : ((cur.take (i + 1) ++ (cur.take n).drop i ++ cur.drop (i + 1 + ((cur.take n).drop i).length)).take i ++ [y] ++ (cur.take (i + 1) ++ (cur.take n).drop i ++ cur.drop (i + 1 + ((cur.take n).drop i).length)).drop (i + 1)).take (n + 1) = (cur.take n).take i ++ y :: (cur.take n).drop i := by
  have h1 : ((cur.take n).drop i).length = n - i := by rw [List.length_drop, List.length_take]; omega
  have h2 : (cur.take (i + 1)).length = i + 1 := by rw [List.length_take]; omega
  generalize hD : (cur.take n).drop i = D at h1 ⊢
  have hX1 : (cur.take (i + 1) ++ D ++ cur.drop (i + 1 + D.length)).take i = cur.take i := by
    rw [List.append_assoc, List.take_append_of_le_length (by rw [h2]; omega), List.take_take, Nat.min_eq_left (by omega)]
  have hX2 : (cur.take (i + 1) ++ D ++ cur.drop (i + 1 + D.length)).drop (i + 1) = D ++ cur.drop (i + 1 + D.length) := by
    rw [List.append_assoc]; exact List.drop_left' h2
  rw [hX1, hX2, List.take_take, Nat.min_eq_left (by omega)]
  have h3 : (cur.take i ++ y :: D).length = n + 1 := by rw [List.length_append, List.length_take, List.length_cons, h1]; omega
  rw [show cur.take i ++ [y] ++ (D ++ cur.drop (i + 1 + D.length)) = (cur.take i ++ y :: D) ++ cur.drop (i + 1 + D.length) by simp]
  exact List.take_left' h3
end Mm

set_option maxRecDepth 100000 in
theorem infoS : ∃ i, Try.prog.info? 9 = some i ∧ i.zero = some (.string ⟨#[]⟩) ∧ i.size = 1 ∧ i.bytes = 16 := ⟨_, Try.type9, rfl, rfl, rfl⟩

set_option maxRecDepth 100000 in
set_option maxHeartbeats 4000000 in
theorem insS_end (p : Option Addr) (n c : Nat) (xs : List Value) (y : Value) (B base : Nat) (w : World) (HO : Hid (Mm.Own w base 9 (.slice p n c) xs)) (hn : Hid (xs.length = n)) (hy : y.oneCell' = true) (HB : Hid (w.heap[B]? = some (.cells #[y] 9 (0, 0)))) (hl : n < 100000) (hbase : base ≤ w.heap.size) :
    Calls Try.prog 26 #[.slice p n c, .int .i64 (n : Int), .slice (some ⟨B, 0, none⟩) 1 1] w fun e w' => ∃ v', e = .returned v' ∧ Mm.Own w' base 9 v' (xs ++ [y]) ∧ w.grownBy w' (Value.slice p n c).ownBlock ∧ (v'.ownBlock = (Value.slice p n c).ownBlock ∨ ∀ g, v'.ownBlock = some g → w.heap.size ≤ g) := by
  obtain ⟨i0, hi0, hz0, hz1, hz2⟩ := infoS
  have hcell : w.cell? ⟨B, 0, none⟩ = some y := Mm.cellOf HB.out rfl
  have hsh := HO.out.shape
  obtain ⟨q, cc, e1, e2, e3, e4, e5⟩ := hsh
  injection e1 with e1 e6 e7
  subst e7
  have HNC : n ≤ c := by rw [e6]; exact e2
  have HC63 : (c : Int) ≤ 9223372036854775807 := by unfold maxLen at e3; omega
  clear e2 e3
  have HZ : p = none → n = 0 ∧ c = 0 := fun h => by
    obtain ⟨h1, h2⟩ := e4 (e1.symm.trans h)
    subst h1
    exact ⟨e6, h2⟩
  have HP : p = none ∨ ∃ g, p = some ⟨g, 0, none⟩ := by
    rcases HO.out.2 with ⟨h, _⟩ | ⟨g, cap, cur, h, _⟩
    · injection h with h; exact Or.inl h
    · injection h with h; exact Or.inr ⟨g, h⟩
  clear e1 e4 e5 e6
  rcases HP with rfl | ⟨g, rfl⟩
  · obtain ⟨rfl, rfl⟩ := HZ rfl
    clear HZ HC63
    go_enter Try.func26, Try.ntmps26
    go_wp2_with (at_builtin; refine wpList_append_own_at _ rfl _ _ 41 rfl base 9 i0 (.string ⟨#[]⟩) 1 16 Try.underlying41 hi0 hz0 hz1 hz2 rfl (by decide) _ 0 xs rfl (by have h := HO.out; unfold Mm.Own at h; rw [hn.out] at h; exact h) ⟨B, 0, none⟩ 1 1 [y] rfl rfl (by intro j u hj; cases j with | zero => (simp at hj; subst hj; exact hcell) | succ j => simp at hj) (fun u hu => by rw [List.mem_singleton.1 hu]; exact hy) (by unfold maxLen; omega) (by omega) hbase ?_; intro v' w1 hown hgrow hnil hloc)
    go_ret
    refine ⟨_, rfl, ?_, hgrow, ?_⟩
    · unfold Mm.Own; rw [List.length_append, hn.out]; exact hown
    · rcases hloc with h | h
      · exact Or.inl h
      · exact Or.inr (fun g' hg => by have hg' : v'.ownBlock = some g' := hg; rw [h] at hg'; injection hg' with hg'; omega)
  · clear HZ
    go_enter Try.func26, Try.ntmps26
    go_wp2_with (at_builtin; refine wpList_append_own_at _ rfl _ _ 41 rfl base 9 i0 (.string ⟨#[]⟩) 1 16 Try.underlying41 hi0 hz0 hz1 hz2 rfl (by decide) _ n xs rfl (by have h := HO.out; unfold Mm.Own at h; rw [hn.out] at h; exact h) ⟨B, 0, none⟩ 1 1 [y] rfl rfl (by intro j u hj; cases j with | zero => (simp at hj; subst hj; exact hcell) | succ j => simp at hj) (fun u hu => by rw [List.mem_singleton.1 hu]; exact hy) (by unfold maxLen; omega) (by omega) hbase ?_; intro v' w1 hown hgrow hnil hloc)
    all_goals
      go_ret
      refine ⟨_, rfl, ?_, hgrow, ?_⟩
      · unfold Mm.Own; rw [List.length_append, hn.out]; exact hown
      · rcases hloc with h | h
        · exact Or.inl h
        · exact Or.inr (fun g' hg => by have hg' : v'.ownBlock = some g' := hg; rw [h] at hg'; injection hg' with hg'; omega)

set_option maxRecDepth 100000 in
set_option maxHeartbeats 4000000 in
theorem insS_room (g n c i : Nat) (xs : List Value) (y : Value) (B base : Nat) (w : World) (HO : Hid (Mm.Own w base 9 (.slice (some ⟨g, 0, none⟩) n c) xs)) (hi : i < n) (hroom : n + 1 ≤ c) (hy : Hid (y.oneCell' = true)) (h1 : Hid (∀ x ∈ xs, x.oneCell' = true)) (HB : Hid (w.heap[B]? = some (.cells #[y] 9 (0, 0)))) (hne : Hid (B ≠ g)) :
    Calls Try.prog 26 #[.slice (some ⟨g, 0, none⟩) n c, .int .i64 (i : Int), .slice (some ⟨B, 0, none⟩) 1 1] w fun e w' => e = .returned (.slice (some ⟨g, 0, none⟩) (n + 1) c) ∧ Mm.Own w' base 9 (.slice (some ⟨g, 0, none⟩) (n + 1) c) (xs.take i ++ y :: xs.drop i) ∧ w.grownBy w' (some g) := by
  obtain ⟨i0, hi0, hz0, hzs, hz2⟩ := infoS
  obtain ⟨cur, b1, b2, b3, b4, b5, b6, b7⟩ := HO.out.block
  have HC63 : (c : Int) ≤ 9223372036854775807 := by unfold maxLen at b5; omega
  have hov : ∀ lb cb, (callFunc 35 #[.slice (some ⟨B, 0, none⟩) 1 1, .slice (some ⟨g, i + 1, none⟩) lb cb]).run Try.prog w = .ok (.value (.bool false)) w := fun lb cb => by
    rw [run_callFunc_extern Try.func35 (by kernel_rfl) (by kernel_rfl) (by kernel_rfl) (e := Extern.SlicesOverlaps.overlaps #[41, 41] #[4]) (by kernel_rfl),
      Lib.run_overlaps_apart w 41 4 9 Try.underlying41 1 Try.sizeOf9 ⟨B, 0, none⟩ ⟨g, i + 1, none⟩ 1 1 lb cb hne.out 9 9 1 c (by simp [World.shape?, HB.out]) (by simp [World.shape?, b1, b2]) (by omega) (by simp [World.frozen?, HB.out]) (by simp [World.frozen?, HB.out])]
    rfl
  have hsz : (Try.prog.info? 9).map (·.size) = some 1 := by rw [hi0]; simp [hzs]
  have hxi : ∀ j v, xs[j]? = some v → w.cell? ⟨g, j, none⟩ = some v := fun j v hj => by
    have hjn : j < n := by have := (List.getElem?_eq_some_iff.1 hj).1; omega
    rw [← b3, List.getElem?_take_of_lt hjn] at hj
    exact Mm.cellOf b1 (by simpa using hj)
  have hsp : ∀ j, j < n + 1 → (w.cell? ⟨g, j, none⟩).isSome = true := fun j hj => by
    rw [Mm.cellOf b1 (Array.getElem?_eq_getElem (by omega))]; rfl
  have hfz : ∀ j, w.frozen? ⟨g, j, none⟩ = false := fun j => by simp [World.frozen?, b1]
  have hdl : (xs.drop i).length = n - i := by rw [List.length_drop, b7]
  have hcp1 : ∀ ty dc sc, (Builtin.copy_ #[41, 41] ty #[.slice (some ⟨g, i + 1, none⟩) (n - i) dc, .slice (some ⟨g, i, none⟩) (n + 1 - i) sc]).run Try.prog w.drew = .ok (goInt (xs.drop i).length) (w.drew.setCells g (i + 1) (xs.drop i)) := fun ty dc sc =>
    run_copy_cells w.drew _ _ ty 9 g (i + 1) _ dc ⟨g, i, none⟩ _ sc (xs.drop i) Try.underlying41 hsz (by rw [hdl]; exact (Nat.min_eq_right (by omega)).symm)
      (fun j v hj => by rw [Addr.add_lit]; exact hxi (i + j) v (by rwa [List.getElem?_drop] at hj))
      (fun j hj => by exact hsp _ (by omega)) (fun j hj => hfz _) (fun v hv => h1.out v (List.mem_of_mem_drop hv))
  obtain ⟨cur1, d1, d2, d3⟩ := Mm.setCells_heap (xs.drop i) (i + 1) w.drew cur b1 (by rw [hdl, b2]; omega)
  obtain ⟨W1, hW1⟩ : ∃ W1, W1 = w.drew.setCells g (i + 1) (xs.drop i) := ⟨_, rfl⟩
  rw [← hW1] at hcp1 d1
  have hgr1 : w.grownBy W1 (some g) := by
    rw [hW1]
    have h := Mm.setCells_grown g (xs.drop i) (i + 1) w.drew
    exact ⟨h.os, h.tape, h.output, h.size, h.block⟩
  have hcp2 : ∀ ty dc, (Builtin.copy_ #[41, 41] ty #[.slice (some ⟨g, i, none⟩) (n + 1 - i) dc, .slice (some ⟨B, 0, none⟩) 1 1]).run Try.prog W1 = .ok (goInt [y].length) (W1.setCells g i [y]) := fun ty dc =>
    run_copy_cells W1 _ _ ty 9 g i _ dc ⟨B, 0, none⟩ 1 1 [y] Try.underlying41 hsz (show 1 = Nat.min 1 (n + 1 - i) from (Nat.min_eq_left (by omega)).symm)
      (fun j v hj => by
        match j, hj with
        | 0, hj =>
          simp at hj; subst hj
          rw [Addr.add_lit]
          have hB2 : W1.heap[B]? = some (.cells #[y] 9 (0, 0)) := (hgr1.block B (Mm.heapLt HB.out) (fun e => hne.out (Option.some.inj e))).trans HB.out
          exact Mm.cellOf hB2 rfl)
      (fun j hj => by rw [Mm.cellOf d1 (Array.getElem?_eq_getElem (by have : j < 1 := hj; omega))]; rfl) (fun j hj => by simp [World.frozen?, d1]) (fun v hv => by rw [List.mem_singleton.1 hv]; exact hy.out)
  obtain ⟨cur2, f1, f2, f3⟩ := Mm.setCells_heap [y] i W1 cur1 d1 (by simp; omega)
  have HF : Hid (Mm.Own (W1.setCells g i [y]) base 9 (.slice (some ⟨g, 0, none⟩) (n + 1) c) (xs.take i ++ y :: xs.drop i) ∧ w.grownBy (W1.setCells g i [y]) (some g)) := by
    refine ⟨Mm.Own.mk f1 b6 (by omega) b5 (by simp [b7]; omega) hroom ?_, Mm.grTr hgr1 (Mm.setCells_grown g [y] i W1)⟩
    have hl := Mm.take_ins cur.toList i y n hi (by simp; omega)
    rw [b3] at hl
    rw [f3, d3, ← hl]
    rfl
  have hz2' : ¬ ((i : Int) = (n : Int)) := by omega
  have hz3 : ¬ ((c : Int) < (n : Int) + 1) := by omega
  have hw1 : IntKind.i64.wrap ((i : Int) + 1) = (i : Int) + 1 := by rw [IntKind.wrap_i64]; omega
  have hb2 : ¬ (c = i + 1) := by omega
  have hb4 : ¬ (c = i) := by omega
  have hb3 : (i : Int) ≤ (n : Int) + 1 := by omega
  have hb1 : (0 : Int) ≤ (i : Int) + 1 := by omega
  have hin : i ≤ n := by omega
  have htn : ((i : Int) + 1).toNat = i + 1 := by omega
  have mixed : Try.prog.follows .mixedOrders = true := by kernel_rfl
  clear b1 b2 b3 b4 b5 b6 b7 hsz hxi hsp hfz hdl d1 d2 d3 hW1 hgr1 f1 f2 f3
  go_enter Try.func26, Try.ntmps26
  go_wp2_with (simp only [hov])
  go_region_law_o (refine step_copy_runI rfl _ _ 41 41 rfl _ _ (by simp [Act.eval, Act.put]) (by simp [Act.eval, Act.put]) (hcp1 _ _ _) ?_)
  go_wp2_with (at_builtin; refine wpList_copy_runI _ rfl _ _ 41 41 rfl _ _ rfl rfl (hcp2 _ _) ?_)
  go_ret
  exact ⟨rfl, HF.out.1, HF.out.2⟩

set_option maxRecDepth 100000 in
set_option maxHeartbeats 4000000 in
theorem insS_grow (g n c i : Nat) (xs : List Value) (y : Value) (B base : Nat) (w : World) (HO : Hid (Mm.Own w base 9 (.slice (some ⟨g, 0, none⟩) n c) xs)) (hi : i < n) (hroom : c < n + 1) (hl : n < 100000) (hy : Hid (y.oneCell' = true)) (h1 : Hid (∀ x ∈ xs, x.oneCell' = true)) (HB : Hid (w.heap[B]? = some (.cells #[y] 9 (0, 0)))) (hbase : base ≤ w.heap.size) :
    Calls Try.prog 26 #[.slice (some ⟨g, 0, none⟩) n c, .int .i64 (i : Int), .slice (some ⟨B, 0, none⟩) 1 1] w fun e w' => ∃ G, e = .returned (.slice (some ⟨w.heap.size, 0, none⟩) (n + 1) G) ∧ Mm.Own w' base 9 (.slice (some ⟨w.heap.size, 0, none⟩) (n + 1) G) (xs.take i ++ y :: xs.drop i) ∧ w.grownBy w' none := by
  obtain ⟨i0, hi0, hz0, hzs, hzb⟩ := infoS
  obtain ⟨cur, b1, b2, b3, b4, b5, b6, b7⟩ := HO.out.block
  have hsz : (Try.prog.info? 9).map (·.size) = some 1 := by rw [hi0]; simp [hzs]
  have hxi : ∀ j v, xs[j]? = some v → w.cell? ⟨g, j, none⟩ = some v := fun j v hj => by
    have hjn : j < n := by have := (List.getElem?_eq_some_iff.1 hj).1; omega
    rw [← b3, List.getElem?_take_of_lt hjn] at hj
    exact Mm.cellOf b1 (by simpa using hj)
  have hgw : g < w.heap.size := Mm.heapLt b1
  have hBw : B < w.heap.size := Mm.heapLt HB.out
  have hkk : (n : Int) + 1 - (i : Int) = ((n + 1 - i : Nat) : Int) := by omega
  have hik : i + (n + 1 - i) = n + 1 := by omega
  have hold : (Builtin.firstCells i0.size i (.slice (some ⟨g, 0, none⟩) i c)).run Try.prog w.drew = .ok (xs.take i).toArray w.drew := by
    rw [hzs]
    exact run_firstCells_some w.drew 1 i ⟨g, 0, none⟩ i c (xs.take i) (by rw [List.length_take]; omega) (fun j v hj => by
      rw [Addr.add_lit, Nat.zero_add]
      rw [List.getElem?_take] at hj
      split at hj
      · exact hxi j v hj
      · cases hj)
  have hrz : ∀ ty, (Builtin.append_ #[41, 3] ty #[.slice (some ⟨g, 0, none⟩) i c, .int .i64 ((n : Int) + 1 - (i : Int))]).run Try.prog w =
      .ok (.slice (some ⟨w.heap.size, 0, none⟩) (n + 1) (grownCap w (n + 1) c 9)) (w.drew.alloc (.cells ((xs.take i).toArray ++ Builtin.zeroCells (Value.cells (.string ⟨#[]⟩)) (n + 1 - i) ++ Builtin.zeroCells (Value.cells (.string ⟨#[]⟩)) (grownCap w (n + 1) c 9 - (n + 1))) 9)) := fun ty => by
    have h := Lib.run_append_grow_zeros w 41 3 ty 9 i0 _ .i64 .i64 Try.underlying41 Try.underlying3 hi0 hz0 (some ⟨g, 0, none⟩) i c (xs.take i) hold (n + 1 - i) (by omega) (by omega) (by omega) (by omega) (by rw [hzb]; omega) (by rw [hzb, hik]; exact growslice_fits hroom (by omega))
    rw [hik] at h
    rw [hkk]
    exact h
  obtain ⟨G, hG⟩ : ∃ G, G = grownCap w (n + 1) c 9 := ⟨_, rfl⟩
  have hGn : n + 1 ≤ G := by rw [hG]; exact grownCap_ge w _ _ _
  have hGm : G ≤ maxLen := by rw [hG]; exact grownCap_le_maxLen w (n + 1) c 9 (by unfold maxLen; omega)
  have hG63 : G ≤ 9223372036854775807 := by unfold maxLen at hGm; omega
  obtain ⟨ROW, hROW⟩ : ∃ ROW : Array Value, ROW = (xs.take i).toArray ++ Builtin.zeroCells (Value.cells (.string ⟨#[]⟩)) (n + 1 - i) ++ Builtin.zeroCells (Value.cells (.string ⟨#[]⟩)) (G - (n + 1)) := ⟨_, rfl⟩
  rw [← hG] at hrz
  rw [← hROW] at hrz
  have hzc : ∀ k, (Builtin.zeroCells (Value.cells (.string ⟨#[]⟩)) k).size = k := fun k => by simp [Builtin.zeroCells, Value.cells]
  have hRl : ROW.size = G := by
    rw [hROW, Array.size_append, Array.size_append, hzc, hzc]
    have : (xs.take i).toArray.size = i := by simp; omega
    omega
  have hRt : ROW.toList.take i = xs.take i := by
    rw [hROW, Array.toList_append, Array.toList_append, List.append_assoc]
    exact List.take_left' (by simp; omega)
  obtain ⟨W1, hW1⟩ : ∃ W1, W1 = w.drew.alloc (.cells ROW 9) := ⟨_, rfl⟩
  have hW1b : W1 = (w.alloc (.cells ROW 9)).drew := hW1
  have hN : W1.heap[w.heap.size]? = some (.cells ROW 9 (0, 0)) := by rw [hW1]; exact Mm.newAt w.drew _ rfl
  have hOld : ∀ b, b < w.heap.size → W1.heap[b]? = w.heap[b]? := fun b hb => by rw [hW1]; exact Mm.oldAt w.drew _ hb
  have hgr1 : w.grownBy W1 (some w.heap.size) := by rw [hW1]; exact ⟨rfl, rfl, rfl, by simp, fun b hb _ => Mm.oldAt w.drew _ hb⟩
  have hcpA : ∀ ty dc, (Builtin.copy_ #[41, 41] ty #[.slice (some ⟨w.heap.size, i, none⟩) (n + 1 - i) dc, .slice (some ⟨B, 0, none⟩) 1 1]).run Try.prog W1 = .ok (goInt [y].length) (W1.setCells w.heap.size i [y]) := fun ty dc =>
    run_copy_cells W1 _ _ ty 9 w.heap.size i _ dc ⟨B, 0, none⟩ 1 1 [y] Try.underlying41 hsz (show 1 = Nat.min 1 (n + 1 - i) from (Nat.min_eq_left (by omega)).symm)
      (fun j v hj => by
        match j, hj with
        | 0, hj =>
          simp at hj; subst hj
          rw [Addr.add_lit]
          exact Mm.cellOf ((hOld B hBw).trans HB.out) rfl)
      (fun j hj => by rw [Mm.cellOf hN (Array.getElem?_eq_getElem (by have : j < 1 := hj; omega))]; rfl) (fun j hj => by simp [World.frozen?, hN]) (fun v hv => by rw [List.mem_singleton.1 hv]; exact hy.out)
  obtain ⟨cur1, d1, d2, d3⟩ := Mm.setCells_heap [y] i W1 ROW hN (by simp; omega)
  obtain ⟨W2, hW2⟩ : ∃ W2, W2 = W1.setCells w.heap.size i [y] := ⟨_, rfl⟩
  rw [← hW2] at hcpA d1
  have hgr2 : w.grownBy W2 (some w.heap.size) := by rw [hW2]; exact Mm.grTr hgr1 (Mm.setCells_grown _ _ _ _)
  have hdl : (xs.drop i).length = n - i := by rw [List.length_drop, b7]
  have hcpB : ∀ ty dc sc, (Builtin.copy_ #[41, 41] ty #[.slice (some ⟨w.heap.size, i + 1, none⟩) (n - i) dc, .slice (some ⟨g, i, none⟩) (n - i) sc]).run Try.prog W2.drew = .ok (goInt (xs.drop i).length) (W2.drew.setCells w.heap.size (i + 1) (xs.drop i)) := fun ty dc sc =>
    run_copy_cells W2.drew _ _ ty 9 w.heap.size (i + 1) _ dc ⟨g, i, none⟩ _ sc (xs.drop i) Try.underlying41 hsz (by rw [hdl]; exact (Nat.min_self _).symm)
      (fun j v hj => by
        rw [Addr.add_lit]
        have h2 : W2.drew.heap[g]? = some (.cells cur 9 (0, 0)) := (hgr2.block g hgw (fun e => by have := Option.some.inj e; omega)).trans b1
        have hj2 := hxi (i + j) v (by rwa [List.getElem?_drop] at hj)
        rw [World.cell?_of_block (a := ⟨g, i + j, none⟩) (w := w) (h2.trans b1.symm)]
        exact hj2)
      (fun j hj => by rw [Mm.cellOf (w := W2.drew) d1 (Array.getElem?_eq_getElem (by omega))]; rfl) (fun j hj => by simp [World.frozen?, show W2.drew.heap[w.heap.size]? = _ from d1]) (fun v hv => h1.out v (List.mem_of_mem_drop hv))
  obtain ⟨cur2, f1, f2, f3⟩ := Mm.setCells_heap (xs.drop i) (i + 1) W2.drew cur1 d1 (by rw [hdl]; omega)
  have HF : Hid (Mm.Own (W2.drew.setCells w.heap.size (i + 1) (xs.drop i)) base 9 (.slice (some ⟨w.heap.size, 0, none⟩) (n + 1) G) (xs.take i ++ y :: xs.drop i) ∧ w.grownBy (W2.drew.setCells w.heap.size (i + 1) (xs.drop i)) none) := by
    refine ⟨Mm.Own.mk f1 hbase (by omega) hGm (by simp [b7]; omega) hGn ?_, ?_⟩
    · have e1 : cur1.toList.take (i + 1) = xs.take i ++ [y] := by
        rw [d3, hRt]
        have : (xs.take i ++ [y]).length = i + 1 := by simp; omega
        exact List.take_left' this
      rw [f3, e1]
      have h3 : (xs.take i ++ [y] ++ xs.drop i).length = n + 1 := by simp; omega
      rw [List.take_left' h3]; simp
    · have h := Mm.grTr (b := W2.drew) ⟨hgr2.os, hgr2.tape, hgr2.output, hgr2.size, hgr2.block⟩ (Mm.setCells_grown w.heap.size (xs.drop i) (i + 1) W2.drew)
      exact ⟨h.os, h.tape, h.output, h.size, fun b hb _ => h.block b hb (fun e => by have := Option.some.inj e; omega)⟩
  have hz2' : ¬ ((i : Int) = (n : Int)) := by omega
  have hz3 : (c : Int) < (n : Int) + 1 := by omega
  have hw1 : IntKind.i64.wrap ((i : Int) + 1) = (i : Int) + 1 := by rw [IntKind.wrap_i64]; omega
  have hGi : ¬ (G = i) := by omega
  have hGim : ¬ (G = i + 1) := by omega
  have hci : ¬ (c = i) := by omega
  have hic : i ≤ c := by omega
  have hb1 : (0 : Int) ≤ (i : Int) + 1 := by omega
  have hin : i ≤ n := by omega
  have htn : ((i : Int) + 1).toNat = i + 1 := by omega
  have hb3 : (i : Int) ≤ (n : Int) := by omega
  have mixed : Try.prog.follows .mixedOrders = true := by kernel_rfl
  rw [← hW1] at hrz
  have HW2 : Hid (W2 = W1.setCells w.heap.size i [y]) := hW2
  clear b1 b2 b3 b4 b5 b6 b7 hsz hxi hgw hBw hkk hik hold hG hGm hROW hzc hRl hRt hW1 hW1b hN hOld hgr1 d1 d2 d3 hgr2 hdl f1 f2 f3 hW2
  go_enter Try.func26, Try.ntmps26
  go_wp2_with (first
    | (at_builtin; refine Lib.wpList_append_run _ rfl _ _ _ _ rfl _ _ rfl rfl _ _ (hrz _) ?_)
    | (at_builtin; refine wpList_copy_runI _ rfl _ _ 41 41 rfl _ _ rfl rfl (hcpA _ _) ?_))
  go_region_law_o (refine step_copy_runI rfl _ _ 41 41 rfl (.slice (some ⟨w.heap.size, i + 1, none⟩) (n - i) (G - (i + 1))) (.slice (some ⟨g, i, none⟩) (n - i) (c - i)) (by simp [Act.eval, Act.put]) (by simp [Act.eval, Act.put]) (hcpB 3 (G - (i + 1)) (c - i)) ?_)
  go_wp2
  go_ret
  exact ⟨G, rfl, HF.out.1, HF.out.2⟩

set_option maxRecDepth 100000 in
theorem infoP : ∃ i, Try.prog.info? 61 = some i ∧ i.zero = some (.pointer none) ∧ i.size = 1 ∧ i.bytes = 8 := ⟨_, Try.type61, rfl, rfl, rfl⟩

set_option maxRecDepth 100000 in
set_option maxHeartbeats 4000000 in
theorem insP_end (p : Option Addr) (n c : Nat) (xs : List Value) (y : Value) (B base : Nat) (w : World) (HO : Hid (Mm.Own w base 61 (.slice p n c) xs)) (hn : Hid (xs.length = n)) (hy : y.oneCell' = true) (HB : Hid (w.heap[B]? = some (.cells #[y] 61 (0, 0)))) (hl : n < 100000) (hbase : base ≤ w.heap.size) :
    Calls Try.prog 38 #[.slice p n c, .int .i64 (n : Int), .slice (some ⟨B, 0, none⟩) 1 1] w fun e w' => ∃ v', e = .returned v' ∧ Mm.Own w' base 61 v' (xs ++ [y]) ∧ w.grownBy w' (Value.slice p n c).ownBlock ∧ (v'.ownBlock = (Value.slice p n c).ownBlock ∨ ∀ g, v'.ownBlock = some g → w.heap.size ≤ g) := by
  obtain ⟨i0, hi0, hz0, hz1, hz2⟩ := infoP
  have hcell : w.cell? ⟨B, 0, none⟩ = some y := Mm.cellOf HB.out rfl
  have hsh := HO.out.shape
  obtain ⟨q, cc, e1, e2, e3, e4, e5⟩ := hsh
  injection e1 with e1 e6 e7
  subst e7
  have HNC : n ≤ c := by rw [e6]; exact e2
  have HC63 : (c : Int) ≤ 9223372036854775807 := by unfold maxLen at e3; omega
  clear e2 e3
  have HZ : p = none → n = 0 ∧ c = 0 := fun h => by
    obtain ⟨h1, h2⟩ := e4 (e1.symm.trans h)
    subst h1
    exact ⟨e6, h2⟩
  have HP : p = none ∨ ∃ g, p = some ⟨g, 0, none⟩ := by
    rcases HO.out.2 with ⟨h, _⟩ | ⟨g, cap, cur, h, _⟩
    · injection h with h; exact Or.inl h
    · injection h with h; exact Or.inr ⟨g, h⟩
  clear e1 e4 e5 e6
  rcases HP with rfl | ⟨g, rfl⟩
  · obtain ⟨rfl, rfl⟩ := HZ rfl
    clear HZ HC63
    go_enter Try.func38, Try.ntmps38
    go_wp2_with (at_builtin; refine wpList_append_own_at _ rfl _ _ 64 rfl base 61 i0 (.pointer none) 1 8 Try.underlying64 hi0 hz0 hz1 hz2 rfl (by decide) _ 0 xs rfl (by have h := HO.out; unfold Mm.Own at h; rw [hn.out] at h; exact h) ⟨B, 0, none⟩ 1 1 [y] rfl rfl (by intro j u hj; cases j with | zero => (simp at hj; subst hj; exact hcell) | succ j => simp at hj) (fun u hu => by rw [List.mem_singleton.1 hu]; exact hy) (by unfold maxLen; omega) (by omega) hbase ?_; intro v' w1 hown hgrow hnil hloc)
    go_ret
    refine ⟨_, rfl, ?_, hgrow, ?_⟩
    · unfold Mm.Own; rw [List.length_append, hn.out]; exact hown
    · rcases hloc with h | h
      · exact Or.inl h
      · exact Or.inr (fun g' hg => by have hg' : v'.ownBlock = some g' := hg; rw [h] at hg'; injection hg' with hg'; omega)
  · clear HZ
    go_enter Try.func38, Try.ntmps38
    go_wp2_with (at_builtin; refine wpList_append_own_at _ rfl _ _ 64 rfl base 61 i0 (.pointer none) 1 8 Try.underlying64 hi0 hz0 hz1 hz2 rfl (by decide) _ n xs rfl (by have h := HO.out; unfold Mm.Own at h; rw [hn.out] at h; exact h) ⟨B, 0, none⟩ 1 1 [y] rfl rfl (by intro j u hj; cases j with | zero => (simp at hj; subst hj; exact hcell) | succ j => simp at hj) (fun u hu => by rw [List.mem_singleton.1 hu]; exact hy) (by unfold maxLen; omega) (by omega) hbase ?_; intro v' w1 hown hgrow hnil hloc)
    all_goals
      go_ret
      refine ⟨_, rfl, ?_, hgrow, ?_⟩
      · unfold Mm.Own; rw [List.length_append, hn.out]; exact hown
      · rcases hloc with h | h
        · exact Or.inl h
        · exact Or.inr (fun g' hg => by have hg' : v'.ownBlock = some g' := hg; rw [h] at hg'; injection hg' with hg'; omega)

set_option maxRecDepth 100000 in
set_option maxHeartbeats 4000000 in
theorem insP_room (g n c i : Nat) (xs : List Value) (y : Value) (B base : Nat) (w : World) (HO : Hid (Mm.Own w base 61 (.slice (some ⟨g, 0, none⟩) n c) xs)) (hi : i < n) (hroom : n + 1 ≤ c) (hy : Hid (y.oneCell' = true)) (h1 : Hid (∀ x ∈ xs, x.oneCell' = true)) (HB : Hid (w.heap[B]? = some (.cells #[y] 61 (0, 0)))) (hne : Hid (B ≠ g)) :
    Calls Try.prog 38 #[.slice (some ⟨g, 0, none⟩) n c, .int .i64 (i : Int), .slice (some ⟨B, 0, none⟩) 1 1] w fun e w' => e = .returned (.slice (some ⟨g, 0, none⟩) (n + 1) c) ∧ Mm.Own w' base 61 (.slice (some ⟨g, 0, none⟩) (n + 1) c) (xs.take i ++ y :: xs.drop i) ∧ w.grownBy w' (some g) := by
  obtain ⟨i0, hi0, hz0, hzs, hz2⟩ := infoP
  obtain ⟨cur, b1, b2, b3, b4, b5, b6, b7⟩ := HO.out.block
  have HC63 : (c : Int) ≤ 9223372036854775807 := by unfold maxLen at b5; omega
  have hov : ∀ lb cb, (callFunc 45 #[.slice (some ⟨B, 0, none⟩) 1 1, .slice (some ⟨g, i + 1, none⟩) lb cb]).run Try.prog w = .ok (.value (.bool false)) w := fun lb cb => by
    rw [run_callFunc_extern Try.func45 (by kernel_rfl) (by kernel_rfl) (by kernel_rfl) (e := Extern.SlicesOverlaps.overlaps #[64, 64] #[4]) (by kernel_rfl),
      Lib.run_overlaps_apart w 64 4 61 Try.underlying64 1 Try.sizeOf61 ⟨B, 0, none⟩ ⟨g, i + 1, none⟩ 1 1 lb cb hne.out 61 61 1 c (by simp [World.shape?, HB.out]) (by simp [World.shape?, b1, b2]) (by omega) (by simp [World.frozen?, HB.out]) (by simp [World.frozen?, HB.out])]
    rfl
  have hsz : (Try.prog.info? 61).map (·.size) = some 1 := by rw [hi0]; simp [hzs]
  have hxi : ∀ j v, xs[j]? = some v → w.cell? ⟨g, j, none⟩ = some v := fun j v hj => by
    have hjn : j < n := by have := (List.getElem?_eq_some_iff.1 hj).1; omega
    rw [← b3, List.getElem?_take_of_lt hjn] at hj
    exact Mm.cellOf b1 (by simpa using hj)
  have hsp : ∀ j, j < n + 1 → (w.cell? ⟨g, j, none⟩).isSome = true := fun j hj => by
    rw [Mm.cellOf b1 (Array.getElem?_eq_getElem (by omega))]; rfl
  have hfz : ∀ j, w.frozen? ⟨g, j, none⟩ = false := fun j => by simp [World.frozen?, b1]
  have hdl : (xs.drop i).length = n - i := by rw [List.length_drop, b7]
  have hcp1 : ∀ ty dc sc, (Builtin.copy_ #[64, 64] ty #[.slice (some ⟨g, i + 1, none⟩) (n - i) dc, .slice (some ⟨g, i, none⟩) (n + 1 - i) sc]).run Try.prog w.drew = .ok (goInt (xs.drop i).length) (w.drew.setCells g (i + 1) (xs.drop i)) := fun ty dc sc =>
    run_copy_cells w.drew _ _ ty 61 g (i + 1) _ dc ⟨g, i, none⟩ _ sc (xs.drop i) Try.underlying64 hsz (by rw [hdl]; exact (Nat.min_eq_right (by omega)).symm)
      (fun j v hj => by rw [Addr.add_lit]; exact hxi (i + j) v (by rwa [List.getElem?_drop] at hj))
      (fun j hj => by exact hsp _ (by omega)) (fun j hj => hfz _) (fun v hv => h1.out v (List.mem_of_mem_drop hv))
  obtain ⟨cur1, d1, d2, d3⟩ := Mm.setCells_heap (xs.drop i) (i + 1) w.drew cur b1 (by rw [hdl, b2]; omega)
  obtain ⟨W1, hW1⟩ : ∃ W1, W1 = w.drew.setCells g (i + 1) (xs.drop i) := ⟨_, rfl⟩
  rw [← hW1] at hcp1 d1
  have hgr1 : w.grownBy W1 (some g) := by
    rw [hW1]
    have h := Mm.setCells_grown g (xs.drop i) (i + 1) w.drew
    exact ⟨h.os, h.tape, h.output, h.size, h.block⟩
  have hcp2 : ∀ ty dc, (Builtin.copy_ #[64, 64] ty #[.slice (some ⟨g, i, none⟩) (n + 1 - i) dc, .slice (some ⟨B, 0, none⟩) 1 1]).run Try.prog W1 = .ok (goInt [y].length) (W1.setCells g i [y]) := fun ty dc =>
    run_copy_cells W1 _ _ ty 61 g i _ dc ⟨B, 0, none⟩ 1 1 [y] Try.underlying64 hsz (show 1 = Nat.min 1 (n + 1 - i) from (Nat.min_eq_left (by omega)).symm)
      (fun j v hj => by
        match j, hj with
        | 0, hj =>
          simp at hj; subst hj
          rw [Addr.add_lit]
          have hB2 : W1.heap[B]? = some (.cells #[y] 61 (0, 0)) := (hgr1.block B (Mm.heapLt HB.out) (fun e => hne.out (Option.some.inj e))).trans HB.out
          exact Mm.cellOf hB2 rfl)
      (fun j hj => by rw [Mm.cellOf d1 (Array.getElem?_eq_getElem (by have : j < 1 := hj; omega))]; rfl) (fun j hj => by simp [World.frozen?, d1]) (fun v hv => by rw [List.mem_singleton.1 hv]; exact hy.out)
  obtain ⟨cur2, f1, f2, f3⟩ := Mm.setCells_heap [y] i W1 cur1 d1 (by simp; omega)
  have HF : Hid (Mm.Own (W1.setCells g i [y]) base 61 (.slice (some ⟨g, 0, none⟩) (n + 1) c) (xs.take i ++ y :: xs.drop i) ∧ w.grownBy (W1.setCells g i [y]) (some g)) := by
    refine ⟨Mm.Own.mk f1 b6 (by omega) b5 (by simp [b7]; omega) hroom ?_, Mm.grTr hgr1 (Mm.setCells_grown g [y] i W1)⟩
    have hl := Mm.take_ins cur.toList i y n hi (by simp; omega)
    rw [b3] at hl
    rw [f3, d3, ← hl]
    rfl
  have hz2' : ¬ ((i : Int) = (n : Int)) := by omega
  have hz3 : ¬ ((c : Int) < (n : Int) + 1) := by omega
  have hw1 : IntKind.i64.wrap ((i : Int) + 1) = (i : Int) + 1 := by rw [IntKind.wrap_i64]; omega
  have hb2 : ¬ (c = i + 1) := by omega
  have hb4 : ¬ (c = i) := by omega
  have hb3 : (i : Int) ≤ (n : Int) + 1 := by omega
  have hb1 : (0 : Int) ≤ (i : Int) + 1 := by omega
  have hin : i ≤ n := by omega
  have htn : ((i : Int) + 1).toNat = i + 1 := by omega
  have mixed : Try.prog.follows .mixedOrders = true := by kernel_rfl
  clear b1 b2 b3 b4 b5 b6 b7 hsz hxi hsp hfz hdl d1 d2 d3 hW1 hgr1 f1 f2 f3
  go_enter Try.func38, Try.ntmps38
  go_wp2_with (simp only [hov])
  go_region_law_o (refine step_copy_runI rfl _ _ 64 64 rfl _ _ (by simp [Act.eval, Act.put]) (by simp [Act.eval, Act.put]) (hcp1 _ _ _) ?_)
  go_wp2_with (at_builtin; refine wpList_copy_runI _ rfl _ _ 64 64 rfl _ _ rfl rfl (hcp2 _ _) ?_)
  go_ret
  exact ⟨rfl, HF.out.1, HF.out.2⟩

set_option maxRecDepth 100000 in
set_option maxHeartbeats 4000000 in
theorem insP_grow (g n c i : Nat) (xs : List Value) (y : Value) (B base : Nat) (w : World) (HO : Hid (Mm.Own w base 61 (.slice (some ⟨g, 0, none⟩) n c) xs)) (hi : i < n) (hroom : c < n + 1) (hl : n < 100000) (hy : Hid (y.oneCell' = true)) (h1 : Hid (∀ x ∈ xs, x.oneCell' = true)) (HB : Hid (w.heap[B]? = some (.cells #[y] 61 (0, 0)))) (hbase : base ≤ w.heap.size) :
    Calls Try.prog 38 #[.slice (some ⟨g, 0, none⟩) n c, .int .i64 (i : Int), .slice (some ⟨B, 0, none⟩) 1 1] w fun e w' => ∃ G, e = .returned (.slice (some ⟨w.heap.size, 0, none⟩) (n + 1) G) ∧ Mm.Own w' base 61 (.slice (some ⟨w.heap.size, 0, none⟩) (n + 1) G) (xs.take i ++ y :: xs.drop i) ∧ w.grownBy w' none := by
  obtain ⟨i0, hi0, hz0, hzs, hzb⟩ := infoP
  obtain ⟨cur, b1, b2, b3, b4, b5, b6, b7⟩ := HO.out.block
  have hsz : (Try.prog.info? 61).map (·.size) = some 1 := by rw [hi0]; simp [hzs]
  have hxi : ∀ j v, xs[j]? = some v → w.cell? ⟨g, j, none⟩ = some v := fun j v hj => by
    have hjn : j < n := by have := (List.getElem?_eq_some_iff.1 hj).1; omega
    rw [← b3, List.getElem?_take_of_lt hjn] at hj
    exact Mm.cellOf b1 (by simpa using hj)
  have hgw : g < w.heap.size := Mm.heapLt b1
  have hBw : B < w.heap.size := Mm.heapLt HB.out
  have hkk : (n : Int) + 1 - (i : Int) = ((n + 1 - i : Nat) : Int) := by omega
  have hik : i + (n + 1 - i) = n + 1 := by omega
  have hold : (Builtin.firstCells i0.size i (.slice (some ⟨g, 0, none⟩) i c)).run Try.prog w.drew = .ok (xs.take i).toArray w.drew := by
    rw [hzs]
    exact run_firstCells_some w.drew 1 i ⟨g, 0, none⟩ i c (xs.take i) (by rw [List.length_take]; omega) (fun j v hj => by
      rw [Addr.add_lit, Nat.zero_add]
      rw [List.getElem?_take] at hj
      split at hj
      · exact hxi j v hj
      · cases hj)
  have hrz : ∀ ty, (Builtin.append_ #[64, 3] ty #[.slice (some ⟨g, 0, none⟩) i c, .int .i64 ((n : Int) + 1 - (i : Int))]).run Try.prog w =
      .ok (.slice (some ⟨w.heap.size, 0, none⟩) (n + 1) (grownCap w (n + 1) c 61)) (w.drew.alloc (.cells ((xs.take i).toArray ++ Builtin.zeroCells (Value.cells (.pointer none)) (n + 1 - i) ++ Builtin.zeroCells (Value.cells (.pointer none)) (grownCap w (n + 1) c 61 - (n + 1))) 61)) := fun ty => by
    have h := Lib.run_append_grow_zeros w 64 3 ty 61 i0 _ .i64 .i64 Try.underlying64 Try.underlying3 hi0 hz0 (some ⟨g, 0, none⟩) i c (xs.take i) hold (n + 1 - i) (by omega) (by omega) (by omega) (by omega) (by rw [hzb]; omega) (by rw [hzb, hik]; exact growslice_fits hroom (by omega))
    rw [hik] at h
    rw [hkk]
    exact h
  obtain ⟨G, hG⟩ : ∃ G, G = grownCap w (n + 1) c 61 := ⟨_, rfl⟩
  have hGn : n + 1 ≤ G := by rw [hG]; exact grownCap_ge w _ _ _
  have hGm : G ≤ maxLen := by rw [hG]; exact grownCap_le_maxLen w (n + 1) c 61 (by unfold maxLen; omega)
  have hG63 : G ≤ 9223372036854775807 := by unfold maxLen at hGm; omega
  obtain ⟨ROW, hROW⟩ : ∃ ROW : Array Value, ROW = (xs.take i).toArray ++ Builtin.zeroCells (Value.cells (.pointer none)) (n + 1 - i) ++ Builtin.zeroCells (Value.cells (.pointer none)) (G - (n + 1)) := ⟨_, rfl⟩
  rw [← hG] at hrz
  rw [← hROW] at hrz
  have hzc : ∀ k, (Builtin.zeroCells (Value.cells (.pointer none)) k).size = k := fun k => by simp [Builtin.zeroCells, Value.cells]
  have hRl : ROW.size = G := by
    rw [hROW, Array.size_append, Array.size_append, hzc, hzc]
    have : (xs.take i).toArray.size = i := by simp; omega
    omega
  have hRt : ROW.toList.take i = xs.take i := by
    rw [hROW, Array.toList_append, Array.toList_append, List.append_assoc]
    exact List.take_left' (by simp; omega)
  obtain ⟨W1, hW1⟩ : ∃ W1, W1 = w.drew.alloc (.cells ROW 61) := ⟨_, rfl⟩
  have hW1b : W1 = (w.alloc (.cells ROW 61)).drew := hW1
  have hN : W1.heap[w.heap.size]? = some (.cells ROW 61 (0, 0)) := by rw [hW1]; exact Mm.newAt w.drew _ rfl
  have hOld : ∀ b, b < w.heap.size → W1.heap[b]? = w.heap[b]? := fun b hb => by rw [hW1]; exact Mm.oldAt w.drew _ hb
  have hgr1 : w.grownBy W1 (some w.heap.size) := by rw [hW1]; exact ⟨rfl, rfl, rfl, by simp, fun b hb _ => Mm.oldAt w.drew _ hb⟩
  have hcpA : ∀ ty dc, (Builtin.copy_ #[64, 64] ty #[.slice (some ⟨w.heap.size, i, none⟩) (n + 1 - i) dc, .slice (some ⟨B, 0, none⟩) 1 1]).run Try.prog W1 = .ok (goInt [y].length) (W1.setCells w.heap.size i [y]) := fun ty dc =>
    run_copy_cells W1 _ _ ty 61 w.heap.size i _ dc ⟨B, 0, none⟩ 1 1 [y] Try.underlying64 hsz (show 1 = Nat.min 1 (n + 1 - i) from (Nat.min_eq_left (by omega)).symm)
      (fun j v hj => by
        match j, hj with
        | 0, hj =>
          simp at hj; subst hj
          rw [Addr.add_lit]
          exact Mm.cellOf ((hOld B hBw).trans HB.out) rfl)
      (fun j hj => by rw [Mm.cellOf hN (Array.getElem?_eq_getElem (by have : j < 1 := hj; omega))]; rfl) (fun j hj => by simp [World.frozen?, hN]) (fun v hv => by rw [List.mem_singleton.1 hv]; exact hy.out)
  obtain ⟨cur1, d1, d2, d3⟩ := Mm.setCells_heap [y] i W1 ROW hN (by simp; omega)
  obtain ⟨W2, hW2⟩ : ∃ W2, W2 = W1.setCells w.heap.size i [y] := ⟨_, rfl⟩
  rw [← hW2] at hcpA d1
  have hgr2 : w.grownBy W2 (some w.heap.size) := by rw [hW2]; exact Mm.grTr hgr1 (Mm.setCells_grown _ _ _ _)
  have hdl : (xs.drop i).length = n - i := by rw [List.length_drop, b7]
  have hcpB : ∀ ty dc sc, (Builtin.copy_ #[64, 64] ty #[.slice (some ⟨w.heap.size, i + 1, none⟩) (n - i) dc, .slice (some ⟨g, i, none⟩) (n - i) sc]).run Try.prog W2.drew = .ok (goInt (xs.drop i).length) (W2.drew.setCells w.heap.size (i + 1) (xs.drop i)) := fun ty dc sc =>
    run_copy_cells W2.drew _ _ ty 61 w.heap.size (i + 1) _ dc ⟨g, i, none⟩ _ sc (xs.drop i) Try.underlying64 hsz (by rw [hdl]; exact (Nat.min_self _).symm)
      (fun j v hj => by
        rw [Addr.add_lit]
        have h2 : W2.drew.heap[g]? = some (.cells cur 61 (0, 0)) := (hgr2.block g hgw (fun e => by have := Option.some.inj e; omega)).trans b1
        have hj2 := hxi (i + j) v (by rwa [List.getElem?_drop] at hj)
        rw [World.cell?_of_block (a := ⟨g, i + j, none⟩) (w := w) (h2.trans b1.symm)]
        exact hj2)
      (fun j hj => by rw [Mm.cellOf (w := W2.drew) d1 (Array.getElem?_eq_getElem (by omega))]; rfl) (fun j hj => by simp [World.frozen?, show W2.drew.heap[w.heap.size]? = _ from d1]) (fun v hv => h1.out v (List.mem_of_mem_drop hv))
  obtain ⟨cur2, f1, f2, f3⟩ := Mm.setCells_heap (xs.drop i) (i + 1) W2.drew cur1 d1 (by rw [hdl]; omega)
  have HF : Hid (Mm.Own (W2.drew.setCells w.heap.size (i + 1) (xs.drop i)) base 61 (.slice (some ⟨w.heap.size, 0, none⟩) (n + 1) G) (xs.take i ++ y :: xs.drop i) ∧ w.grownBy (W2.drew.setCells w.heap.size (i + 1) (xs.drop i)) none) := by
    refine ⟨Mm.Own.mk f1 hbase (by omega) hGm (by simp [b7]; omega) hGn ?_, ?_⟩
    · have e1 : cur1.toList.take (i + 1) = xs.take i ++ [y] := by
        rw [d3, hRt]
        have : (xs.take i ++ [y]).length = i + 1 := by simp; omega
        exact List.take_left' this
      rw [f3, e1]
      have h3 : (xs.take i ++ [y] ++ xs.drop i).length = n + 1 := by simp; omega
      rw [List.take_left' h3]; simp
    · have h := Mm.grTr (b := W2.drew) ⟨hgr2.os, hgr2.tape, hgr2.output, hgr2.size, hgr2.block⟩ (Mm.setCells_grown w.heap.size (xs.drop i) (i + 1) W2.drew)
      exact ⟨h.os, h.tape, h.output, h.size, fun b hb _ => h.block b hb (fun e => by have := Option.some.inj e; omega)⟩
  have hz2' : ¬ ((i : Int) = (n : Int)) := by omega
  have hz3 : (c : Int) < (n : Int) + 1 := by omega
  have hw1 : IntKind.i64.wrap ((i : Int) + 1) = (i : Int) + 1 := by rw [IntKind.wrap_i64]; omega
  have hGi : ¬ (G = i) := by omega
  have hGim : ¬ (G = i + 1) := by omega
  have hci : ¬ (c = i) := by omega
  have hic : i ≤ c := by omega
  have hb1 : (0 : Int) ≤ (i : Int) + 1 := by omega
  have hin : i ≤ n := by omega
  have htn : ((i : Int) + 1).toNat = i + 1 := by omega
  have hb3 : (i : Int) ≤ (n : Int) := by omega
  have mixed : Try.prog.follows .mixedOrders = true := by kernel_rfl
  rw [← hW1] at hrz
  have HW2 : Hid (W2 = W1.setCells w.heap.size i [y]) := hW2
  clear b1 b2 b3 b4 b5 b6 b7 hsz hxi hgw hBw hkk hik hold hG hGm hROW hzc hRl hRt hW1 hW1b hN hOld hgr1 d1 d2 d3 hgr2 hdl f1 f2 f3 hW2
  go_enter Try.func38, Try.ntmps38
  go_wp2_with (first
    | (at_builtin; refine Lib.wpList_append_run _ rfl _ _ _ _ rfl _ _ rfl rfl _ _ (hrz _) ?_)
    | (at_builtin; refine wpList_copy_runI _ rfl _ _ 64 64 rfl _ _ rfl rfl (hcpA _ _) ?_))
  go_region_law_o (refine step_copy_runI rfl _ _ 64 64 rfl (.slice (some ⟨w.heap.size, i + 1, none⟩) (n - i) (G - (i + 1))) (.slice (some ⟨g, i, none⟩) (n - i) (c - i)) (by simp [Act.eval, Act.put]) (by simp [Act.eval, Act.put]) (hcpB 3 (G - (i + 1)) (c - i)) ?_)
  go_wp2
  go_ret
  exact ⟨G, rfl, HF.out.1, HF.out.2⟩

end Go.Proofs.Ytjnaafgiokdcbaa
