/- Rows of one's own: cells set; slices.Insert, slices.Delete. -/
import Derived.Test.YtjnaafgiokdcbaaGreatDoorGA
import Derived.Shelf.Spec.SlicesInsertGrow
import Derived.Lib.SliceRun
import Derived.Lib.Overlaps
namespace Go.Proofs.YtjnaafgiokdcbaaGreatDoor
open Go.RowKit

namespace Mm
theorem setCells_heap {g : Nat} {e : TypeId} : ∀ (vs : List Value) (o : Nat) (w : World) (cur : Array Value), w.heap[g]? = some (.cells cur e (0, 0)) → o + vs.length ≤ cur.size → ∃ cur' : Array Value, (w.setCells g o vs).heap[g]? = some (.cells cur' e (0, 0)) ∧ cur'.size = cur.size ∧ cur'.toList = cur.toList.take o ++ vs ++ cur.toList.drop (o + vs.length)
  | [], o, w, cur, h, _ => ⟨cur, h, rfl, by simp⟩
  | v :: r, o, w, cur, h, hs => by
    have hs' : o + (r.length + 1) ≤ cur.size := by simpa using hs
    obtain ⟨cur', h1, h2, h3⟩ := setCells_heap (g := g) (e := e) r (o + 1) (w.setCell ⟨g, o, none⟩ v) (cur.setIfInBounds o v) (heap_setCell_same w g o cur e v h) (by simp; omega)
    refine ⟨cur', h1, by simpa using h2, ?_⟩
    rw [h3, Array.toList_setIfInBounds]
    have hlt : o < cur.toList.length := by simp; omega
    rw [List.take_set, List.take_add_one, List.drop_set_of_lt (by omega), List.getElem?_eq_getElem hlt]
    rw [List.set_append_right _ _ (by rw [List.length_take]; omega)]
    have e0 : o - (cur.toList.take o).length = 0 := by rw [List.length_take]; omega
    rw [e0]
    simp [Nat.add_comm, Nat.add_left_comm]
theorem setCells_other {g : Nat} : ∀ (vs : List Value) (o : Nat) (w : World) (b : Nat), b ≠ g → (w.setCells g o vs).heap[b]? = w.heap[b]?
  | [], _, _, _, _ => rfl
  | v :: r, o, w, b, h => by
    rw [World.setCells, setCells_other r (o + 1) _ b h]
    exact heap_setCell_other w _ b _ (fun e => h e)
theorem setCells_grown (g : Nat) : ∀ (vs : List Value) (o : Nat) (w : World), w.grownBy (w.setCells g o vs) (some g)
  | [], _, w => World.grownBy.refl w _
  | v :: r, o, w => by
    have h := setCells_grown g r (o + 1) (w.setCell ⟨g, o, none⟩ v)
    refine ⟨h.os, h.tape, h.output, Nat.le_trans (Nat.le_of_eq (by simp)) h.size, fun k hk hne => (h.block k (by simpa using hk) hne).trans (heap_setCell_other w _ k _ (fun e => hne (by rw [e])))⟩
theorem grTr {a b c : World} {r : Option Nat} (h : a.grownBy b r) (h2 : b.grownBy c r) : a.grownBy c r := ⟨h2.os.trans h.os, h2.tape.trans h.tape, h2.output.trans h.output, Nat.le_trans h.size h2.size, fun k hk hne => (h2.block k (Nat.lt_of_lt_of_le hk h.size) hne).trans (h.block k hk hne)⟩
theorem Own.block {w : World} {base g n c : Nat} {e : TypeId} {xs : List Value} (h : Own w base e (.slice (some ⟨g, 0, none⟩) n c) xs) : ∃ cur : Array Value, w.heap[g]? = some (.cells cur e (0, 0)) ∧ cur.size = c ∧ cur.toList.take n = xs ∧ n ≤ c ∧ c ≤ maxLen ∧ base ≤ g ∧ xs.length = n := by
  obtain ⟨_, ⟨e1, _⟩ | ⟨g', cap, cur, e1, e2, e3, e4, e5, e6, e7⟩⟩ := h
  · cases e1
  · injection e1 with e1 e8 e9
    injection e1 with e1
    injection e1 with e1
    subst e1; subst e9; subst e8
    rw [Nat.mul_one] at e6 e7
    exact ⟨cur, e3, e6, e7, e4, e5, e2, rfl⟩
theorem Own.mk {w : World} {base g m c : Nat} {e : TypeId} {ys : List Value} {cur : Array Value} (h : w.heap[g]? = some (.cells cur e (0, 0))) (hb : base ≤ g) (hs : cur.size = c) (hm : c ≤ maxLen) (hy : ys.length = m) (hmc : m ≤ c) (ht : cur.toList.take m = ys) : Own w base e (.slice (some ⟨g, 0, none⟩) m c) ys := by
  subst hy
  exact ⟨by rw [Nat.mul_one], Or.inr ⟨g, c, cur, rfl, hb, h, hmc, hm, by rw [Nat.mul_one]; exact hs, by rw [Nat.mul_one]; exact ht⟩⟩
theorem take_ins (cur : List Value) (i : Nat) (y : Value) (n : Nat) (hi : i < n) (hn : n + 1 ≤ cur.length) : ((cur.take (i + 1) ++ (cur.take n).drop i ++ cur.drop (i + 1 + ((cur.take n).drop i).length)).take i ++ [y] ++ (cur.take (i + 1) ++ (cur.take n).drop i ++ cur.drop (i + 1 + ((cur.take n).drop i).length)).drop (i + 1)).take (n + 1) = (cur.take n).take i ++ y :: (cur.take n).drop i := by
  have h1 : ((cur.take n).drop i).length = n - i := by rw [List.length_drop, List.length_take]; omega
  have h2 : (cur.take (i + 1)).length = i + 1 := by rw [List.length_take]; omega
  generalize hD : (cur.take n).drop i = D at h1 ⊢
  have hX1 : (cur.take (i + 1) ++ D ++ cur.drop (i + 1 + D.length)).take i = cur.take i := by
    rw [List.append_assoc, List.take_append_of_le_length (by rw [h2]; omega), List.take_take, Nat.min_eq_left (by omega)]
  have hX2 : (cur.take (i + 1) ++ D ++ cur.drop (i + 1 + D.length)).drop (i + 1) = D ++ cur.drop (i + 1 + D.length) := by
    rw [List.append_assoc]; exact List.drop_left' h2
  rw [hX1, hX2, List.take_take, Nat.min_eq_left (by omega)]
  have h3 : (cur.take i ++ y :: D).length = n + 1 := by rw [List.length_append, List.length_take, List.length_cons, h1]; omega
  rw [show cur.take i ++ [y] ++ (D ++ cur.drop (i + 1 + D.length)) = (cur.take i ++ y :: D) ++ cur.drop (i + 1 + D.length) by simp]
  exact List.take_left' h3
end Mm

set_option maxRecDepth 100000 in
theorem infoS : ∃ i, Tryz.prog.info? 9 = some i ∧ i.zero = some (.string ⟨#[]⟩) ∧ i.size = 1 ∧ i.bytes = 16 := ⟨_, Tryz.type9, rfl, rfl, rfl⟩

set_option maxRecDepth 100000 in
set_option maxHeartbeats 4000000 in
theorem insS_end (p : Option Addr) (n c : Nat) (xs : List Value) (y : Value) (B base : Nat) (w : World) (HO : Hid (Mm.Own w base 9 (.slice p n c) xs)) (hn : Hid (xs.length = n)) (hy : y.oneCell' = true) (HB : Hid (w.heap[B]? = some (.cells #[y] 9 (0, 0)))) (hl : n < 100000) (hbase : base ≤ w.heap.size) :
    Calls Tryz.prog 53 #[.slice p n c, .int .i64 (n : Int), .slice (some ⟨B, 0, none⟩) 1 1] w fun e w' => ∃ v', e = .returned v' ∧ Mm.Own w' base 9 v' (xs ++ [y]) ∧ w.grownBy w' (Value.slice p n c).ownBlock ∧ (v'.ownBlock = (Value.slice p n c).ownBlock ∨ ∀ g, v'.ownBlock = some g → w.heap.size ≤ g) := by
  obtain ⟨i0, hi0, hz0, hz1, hz2⟩ := infoS
  have hcell : w.cell? ⟨B, 0, none⟩ = some y := Mm.cellOf HB.out rfl
  have hsh := HO.out.shape
  obtain ⟨q, cc, e1, e2, e3, e4, e5⟩ := hsh
  injection e1 with e1 e6 e7
  subst e7
  have HNC : n ≤ c := by rw [e6]; exact e2
  have HC63 : (c : Int) ≤ 9223372036854775807 := by unfold maxLen at e3; omega
  clear e2 e3
  have HZ : p = none → n = 0 ∧ c = 0 := fun h => by
    obtain ⟨h1, h2⟩ := e4 (e1.symm.trans h)
    subst h1
    exact ⟨e6, h2⟩
  have HP : p = none ∨ ∃ g, p = some ⟨g, 0, none⟩ := by
    rcases HO.out.2 with ⟨h, _⟩ | ⟨g, cap, cur, h, _⟩
    · injection h with h; exact Or.inl h
    · injection h with h; exact Or.inr ⟨g, h⟩
  clear e1 e4 e5 e6
  rcases HP with rfl | ⟨g, rfl⟩
  · obtain ⟨rfl, rfl⟩ := HZ rfl
    clear HZ HC63
    go_enter Tryz.func53, Tryz.ntmps53
    go_wp2_with (at_builtin; refine wpList_append_own_at _ rfl _ _ 89 rfl base 9 i0 (.string ⟨#[]⟩) 1 16 Tryz.underlying89 hi0 hz0 hz1 hz2 rfl (by decide) _ 0 xs rfl (by have h := HO.out; unfold Mm.Own at h; rw [hn.out] at h; exact h) ⟨B, 0, none⟩ 1 1 [y] rfl rfl (by intro j u hj; cases j with | zero => (simp at hj; subst hj; exact hcell) | succ j => simp at hj) (fun u hu => by rw [List.mem_singleton.1 hu]; exact hy) (by unfold maxLen; omega) (by omega) hbase ?_; intro v' w1 hown hgrow hnil hloc)
    go_ret
    refine ⟨_, rfl, ?_, hgrow, ?_⟩
    · unfold Mm.Own; rw [List.length_append, hn.out]; exact hown
    · rcases hloc with h | h
      · exact Or.inl h
      · exact Or.inr (fun g' hg => by have hg' : v'.ownBlock = some g' := hg; rw [h] at hg'; injection hg' with hg'; omega)
  · clear HZ
    go_enter Tryz.func53, Tryz.ntmps53
    go_wp2_with (at_builtin; refine wpList_append_own_at _ rfl _ _ 89 rfl base 9 i0 (.string ⟨#[]⟩) 1 16 Tryz.underlying89 hi0 hz0 hz1 hz2 rfl (by decide) _ n xs rfl (by have h := HO.out; unfold Mm.Own at h; rw [hn.out] at h; exact h) ⟨B, 0, none⟩ 1 1 [y] rfl rfl (by intro j u hj; cases j with | zero => (simp at hj; subst hj; exact hcell) | succ j => simp at hj) (fun u hu => by rw [List.mem_singleton.1 hu]; exact hy) (by unfold maxLen; omega) (by omega) hbase ?_; intro v' w1 hown hgrow hnil hloc)
    all_goals
      go_ret
      refine ⟨_, rfl, ?_, hgrow, ?_⟩
      · unfold Mm.Own; rw [List.length_append, hn.out]; exact hown
      · rcases hloc with h | h
        · exact Or.inl h
        · exact Or.inr (fun g' hg => by have hg' : v'.ownBlock = some g' := hg; rw [h] at hg'; injection hg' with hg'; omega)

set_option maxRecDepth 100000 in
set_option maxHeartbeats 4000000 in
theorem insS_room (g n c i : Nat) (xs : List Value) (y : Value) (B base : Nat) (w : World) (HO : Hid (Mm.Own w base 9 (.slice (some ⟨g, 0, none⟩) n c) xs)) (hi : i < n) (hroom : n + 1 ≤ c) (hy : Hid (y.oneCell' = true)) (h1 : Hid (∀ x ∈ xs, x.oneCell' = true)) (HB : Hid (w.heap[B]? = some (.cells #[y] 9 (0, 0)))) (hne : Hid (B ≠ g)) :
    Calls Tryz.prog 53 #[.slice (some ⟨g, 0, none⟩) n c, .int .i64 (i : Int), .slice (some ⟨B, 0, none⟩) 1 1] w fun e w' => e = .returned (.slice (some ⟨g, 0, none⟩) (n + 1) c) ∧ Mm.Own w' base 9 (.slice (some ⟨g, 0, none⟩) (n + 1) c) (xs.take i ++ y :: xs.drop i) ∧ w.grownBy w' (some g) := by
  obtain ⟨i0, hi0, hz0, hzs, hz2⟩ := infoS
  obtain ⟨cur, b1, b2, b3, b4, b5, b6, b7⟩ := HO.out.block
  have HC63 : (c : Int) ≤ 9223372036854775807 := by unfold maxLen at b5; omega
  have hov : ∀ lb cb, (callFunc 73 #[.slice (some ⟨B, 0, none⟩) 1 1, .slice (some ⟨g, i + 1, none⟩) lb cb]).run Tryz.prog w = .ok (.value (.bool false)) w := fun lb cb => by
    rw [run_callFunc_extern Tryz.func73 (by kernel_rfl) (by kernel_rfl) (by kernel_rfl) (e := Extern.SlicesOverlaps.overlaps #[89, 89] #[4]) (by kernel_rfl),
      Lib.run_overlaps_apart w 89 4 9 Tryz.underlying89 1 Tryz.sizeOf9 ⟨B, 0, none⟩ ⟨g, i + 1, none⟩ 1 1 lb cb hne.out 9 9 1 c (by simp [World.shape?, HB.out]) (by simp [World.shape?, b1, b2]) (by omega) (by simp [World.frozen?, HB.out]) (by simp [World.frozen?, HB.out])]
    rfl
  have hsz : (Tryz.prog.info? 9).map (·.size) = some 1 := by rw [hi0]; simp [hzs]
  have hxi : ∀ j v, xs[j]? = some v → w.cell? ⟨g, j, none⟩ = some v := fun j v hj => by
    have hjn : j < n := by have := (List.getElem?_eq_some_iff.1 hj).1; omega
    rw [← b3, List.getElem?_take_of_lt hjn] at hj
    exact Mm.cellOf b1 (by simpa using hj)
  have hsp : ∀ j, j < n + 1 → (w.cell? ⟨g, j, none⟩).isSome = true := fun j hj => by
    rw [Mm.cellOf b1 (Array.getElem?_eq_getElem (by omega))]; rfl
  have hfz : ∀ j, w.frozen? ⟨g, j, none⟩ = false := fun j => by simp [World.frozen?, b1]
  have hdl : (xs.drop i).length = n - i := by rw [List.length_drop, b7]
  have hcp1 : ∀ ty dc sc, (Builtin.copy_ #[89, 89] ty #[.slice (some ⟨g, i + 1, none⟩) (n - i) dc, .slice (some ⟨g, i, none⟩) (n + 1 - i) sc]).run Tryz.prog w.drew = .ok (goInt (xs.drop i).length) (w.drew.setCells g (i + 1) (xs.drop i)) := fun ty dc sc =>
    run_copy_cells w.drew _ _ ty 9 g (i + 1) _ dc ⟨g, i, none⟩ _ sc (xs.drop i) Tryz.underlying89 hsz (by rw [hdl]; exact (Nat.min_eq_right (by omega)).symm)
      (fun j v hj => by rw [Addr.add_lit]; exact hxi (i + j) v (by rwa [List.getElem?_drop] at hj))
      (fun j hj => by exact hsp _ (by omega)) (fun j hj => hfz _) (fun v hv => h1.out v (List.mem_of_mem_drop hv))
  obtain ⟨cur1, d1, d2, d3⟩ := Mm.setCells_heap (xs.drop i) (i + 1) w.drew cur b1 (by rw [hdl, b2]; omega)
  obtain ⟨W1, hW1⟩ : ∃ W1, W1 = w.drew.setCells g (i + 1) (xs.drop i) := ⟨_, rfl⟩
  rw [← hW1] at hcp1 d1
  have hgr1 : w.grownBy W1 (some g) := by
    rw [hW1]
    have h := Mm.setCells_grown g (xs.drop i) (i + 1) w.drew
    exact ⟨h.os, h.tape, h.output, h.size, h.block⟩
  have hcp2 : ∀ ty dc, (Builtin.copy_ #[89, 89] ty #[.slice (some ⟨g, i, none⟩) (n + 1 - i) dc, .slice (some ⟨B, 0, none⟩) 1 1]).run Tryz.prog W1 = .ok (goInt [y].length) (W1.setCells g i [y]) := fun ty dc =>
    run_copy_cells W1 _ _ ty 9 g i _ dc ⟨B, 0, none⟩ 1 1 [y] Tryz.underlying89 hsz (show 1 = Nat.min 1 (n + 1 - i) from (Nat.min_eq_left (by omega)).symm)
      (fun j v hj => by
        match j, hj with
        | 0, hj =>
          simp at hj; subst hj
          rw [Addr.add_lit]
          have hB2 : W1.heap[B]? = some (.cells #[y] 9 (0, 0)) := (hgr1.block B (Mm.heapLt HB.out) (fun e => hne.out (Option.some.inj e))).trans HB.out
          exact Mm.cellOf hB2 rfl)
      (fun j hj => by rw [Mm.cellOf d1 (Array.getElem?_eq_getElem (by have : j < 1 := hj; omega))]; rfl) (fun j hj => by simp [World.frozen?, d1]) (fun v hv => by rw [List.mem_singleton.1 hv]; exact hy.out)
  obtain ⟨cur2, f1, f2, f3⟩ := Mm.setCells_heap [y] i W1 cur1 d1 (by simp; omega)
  have HF : Hid (Mm.Own (W1.setCells g i [y]) base 9 (.slice (some ⟨g, 0, none⟩) (n + 1) c) (xs.take i ++ y :: xs.drop i) ∧ w.grownBy (W1.setCells g i [y]) (some g)) := by
    refine ⟨Mm.Own.mk f1 b6 (by omega) b5 (by simp [b7]; omega) hroom ?_, Mm.grTr hgr1 (Mm.setCells_grown g [y] i W1)⟩
    have hl := Mm.take_ins cur.toList i y n hi (by simp; omega)
    rw [b3] at hl
    rw [f3, d3, ← hl]
    rfl
  have hz2' : ¬ ((i : Int) = (n : Int)) := by omega
  have hz3 : ¬ ((c : Int) < (n : Int) + 1) := by omega
  have hw1 : IntKind.i64.wrap ((i : Int) + 1) = (i : Int) + 1 := by rw [IntKind.wrap_i64]; omega
  have hb2 : ¬ (c = i + 1) := by omega
  have hb4 : ¬ (c = i) := by omega
  have hb3 : (i : Int) ≤ (n : Int) + 1 := by omega
  have hb1 : (0 : Int) ≤ (i : Int) + 1 := by omega
  have hin : i ≤ n := by omega
  have htn : ((i : Int) + 1).toNat = i + 1 := by omega
  have mixed : Tryz.prog.follows .mixedOrders = true := by kernel_rfl
  clear b1 b2 b3 b4 b5 b6 b7 hsz hxi hsp hfz hdl d1 d2 d3 hW1 hgr1 f1 f2 f3
  go_enter Tryz.func53, Tryz.ntmps53
  go_wp2_with (simp only [hov])
  go_region_law_o (refine step_copy_runI rfl _ _ 89 89 rfl _ _ (by simp [Act.eval, Act.put]) (by simp [Act.eval, Act.put]) (hcp1 _ _ _) ?_)
  go_wp2_with (at_builtin; refine wpList_copy_runI _ rfl _ _ 89 89 rfl _ _ rfl rfl (hcp2 _ _) ?_)
  go_ret
  exact ⟨rfl, HF.out.1, HF.out.2⟩

set_option maxRecDepth 100000 in
set_option maxHeartbeats 4000000 in
theorem insS_grow (g n c i : Nat) (xs : List Value) (y : Value) (B base : Nat) (w : World) (HO : Hid (Mm.Own w base 9 (.slice (some ⟨g, 0, none⟩) n c) xs)) (hi : i < n) (hroom : c < n + 1) (hl : n < 100000) (hy : Hid (y.oneCell' = true)) (h1 : Hid (∀ x ∈ xs, x.oneCell' = true)) (HB : Hid (w.heap[B]? = some (.cells #[y] 9 (0, 0)))) (hbase : base ≤ w.heap.size) :
    Calls Tryz.prog 53 #[.slice (some ⟨g, 0, none⟩) n c, .int .i64 (i : Int), .slice (some ⟨B, 0, none⟩) 1 1] w fun e w' => ∃ G, e = .returned (.slice (some ⟨w.heap.size, 0, none⟩) (n + 1) G) ∧ Mm.Own w' base 9 (.slice (some ⟨w.heap.size, 0, none⟩) (n + 1) G) (xs.take i ++ y :: xs.drop i) ∧ w.grownBy w' none := by
  obtain ⟨i0, hi0, hz0, hzs, hzb⟩ := infoS
  obtain ⟨cur, b1, b2, b3, b4, b5, b6, b7⟩ := HO.out.block
  have hsz : (Tryz.prog.info? 9).map (·.size) = some 1 := by rw [hi0]; simp [hzs]
  have hxi : ∀ j v, xs[j]? = some v → w.cell? ⟨g, j, none⟩ = some v := fun j v hj => by
    have hjn : j < n := by have := (List.getElem?_eq_some_iff.1 hj).1; omega
    rw [← b3, List.getElem?_take_of_lt hjn] at hj
    exact Mm.cellOf b1 (by simpa using hj)
  have hgw : g < w.heap.size := Mm.heapLt b1
  have hBw : B < w.heap.size := Mm.heapLt HB.out
  have hkk : (n : Int) + 1 - (i : Int) = ((n + 1 - i : Nat) : Int) := by omega
  have hik : i + (n + 1 - i) = n + 1 := by omega
  have hold : (Builtin.firstCells i0.size i (.slice (some ⟨g, 0, none⟩) i c)).run Tryz.prog w.drew = .ok (xs.take i).toArray w.drew := by
    rw [hzs]
    exact run_firstCells_some w.drew 1 i ⟨g, 0, none⟩ i c (xs.take i) (by rw [List.length_take]; omega) (fun j v hj => by
      rw [Addr.add_lit, Nat.zero_add]
      rw [List.getElem?_take] at hj
      split at hj
      · exact hxi j v hj
      · cases hj)
  have hrz : ∀ ty, (Builtin.append_ #[89, 3] ty #[.slice (some ⟨g, 0, none⟩) i c, .int .i64 ((n : Int) + 1 - (i : Int))]).run Tryz.prog w =
      .ok (.slice (some ⟨w.heap.size, 0, none⟩) (n + 1) (grownCap w (n + 1) c 9)) (w.drew.alloc (.cells ((xs.take i).toArray ++ Builtin.zeroCells (Value.cells (.string ⟨#[]⟩)) (n + 1 - i) ++ Builtin.zeroCells (Value.cells (.string ⟨#[]⟩)) (grownCap w (n + 1) c 9 - (n + 1))) 9)) := fun ty => by
    have h := Lib.run_append_grow_zeros w 89 3 ty 9 i0 _ .i64 .i64 Tryz.underlying89 Tryz.underlying3 hi0 hz0 (some ⟨g, 0, none⟩) i c (xs.take i) hold (n + 1 - i) (by omega) (by omega) (by omega) (by omega) (by rw [hzb]; omega) (by rw [hzb, hik]; exact growslice_fits hroom (by omega))
    rw [hik] at h
    rw [hkk]
    exact h
  obtain ⟨G, hG⟩ : ∃ G, G = grownCap w (n + 1) c 9 := ⟨_, rfl⟩
  have hGn : n + 1 ≤ G := by rw [hG]; exact grownCap_ge w _ _ _
  have hGm : G ≤ maxLen := by rw [hG]; exact grownCap_le_maxLen w (n + 1) c 9 (by unfold maxLen; omega)
  have hG63 : G ≤ 9223372036854775807 := by unfold maxLen at hGm; omega
  obtain ⟨ROW, hROW⟩ : ∃ ROW : Array Value, ROW = (xs.take i).toArray ++ Builtin.zeroCells (Value.cells (.string ⟨#[]⟩)) (n + 1 - i) ++ Builtin.zeroCells (Value.cells (.string ⟨#[]⟩)) (G - (n + 1)) := ⟨_, rfl⟩
  rw [← hG] at hrz
  rw [← hROW] at hrz
  have hzc : ∀ k, (Builtin.zeroCells (Value.cells (.string ⟨#[]⟩)) k).size = k := fun k => by simp [Builtin.zeroCells, Value.cells]
  have hRl : ROW.size = G := by
    rw [hROW, Array.size_append, Array.size_append, hzc, hzc]
    have : (xs.take i).toArray.size = i := by simp; omega
    omega
  have hRt : ROW.toList.take i = xs.take i := by
    rw [hROW, Array.toList_append, Array.toList_append, List.append_assoc]
    exact List.take_left' (by simp; omega)
  obtain ⟨W1, hW1⟩ : ∃ W1, W1 = w.drew.alloc (.cells ROW 9) := ⟨_, rfl⟩
  have hW1b : W1 = (w.alloc (.cells ROW 9)).drew := hW1
  have hN : W1.heap[w.heap.size]? = some (.cells ROW 9 (0, 0)) := by rw [hW1]; exact Mm.newAt w.drew _ rfl
  have hOld : ∀ b, b < w.heap.size → W1.heap[b]? = w.heap[b]? := fun b hb => by rw [hW1]; exact Mm.oldAt w.drew _ hb
  have hgr1 : w.grownBy W1 (some w.heap.size) := by rw [hW1]; exact ⟨rfl, rfl, rfl, by simp, fun b hb _ => Mm.oldAt w.drew _ hb⟩
  have hcpA : ∀ ty dc, (Builtin.copy_ #[89, 89] ty #[.slice (some ⟨w.heap.size, i, none⟩) (n + 1 - i) dc, .slice (some ⟨B, 0, none⟩) 1 1]).run Tryz.prog W1 = .ok (goInt [y].length) (W1.setCells w.heap.size i [y]) := fun ty dc =>
    run_copy_cells W1 _ _ ty 9 w.heap.size i _ dc ⟨B, 0, none⟩ 1 1 [y] Tryz.underlying89 hsz (show 1 = Nat.min 1 (n + 1 - i) from (Nat.min_eq_left (by omega)).symm)
      (fun j v hj => by
        match j, hj with
        | 0, hj =>
          simp at hj; subst hj
          rw [Addr.add_lit]
          exact Mm.cellOf ((hOld B hBw).trans HB.out) rfl)
      (fun j hj => by rw [Mm.cellOf hN (Array.getElem?_eq_getElem (by have : j < 1 := hj; omega))]; rfl) (fun j hj => by simp [World.frozen?, hN]) (fun v hv => by rw [List.mem_singleton.1 hv]; exact hy.out)
  obtain ⟨cur1, d1, d2, d3⟩ := Mm.setCells_heap [y] i W1 ROW hN (by simp; omega)
  obtain ⟨W2, hW2⟩ : ∃ W2, W2 = W1.setCells w.heap.size i [y] := ⟨_, rfl⟩
  rw [← hW2] at hcpA d1
  have hgr2 : w.grownBy W2 (some w.heap.size) := by rw [hW2]; exact Mm.grTr hgr1 (Mm.setCells_grown _ _ _ _)
  have hdl : (xs.drop i).length = n - i := by rw [List.length_drop, b7]
  have hcpB : ∀ ty dc sc, (Builtin.copy_ #[89, 89] ty #[.slice (some ⟨w.heap.size, i + 1, none⟩) (n - i) dc, .slice (some ⟨g, i, none⟩) (n - i) sc]).run Tryz.prog W2.drew = .ok (goInt (xs.drop i).length) (W2.drew.setCells w.heap.size (i + 1) (xs.drop i)) := fun ty dc sc =>
    run_copy_cells W2.drew _ _ ty 9 w.heap.size (i + 1) _ dc ⟨g, i, none⟩ _ sc (xs.drop i) Tryz.underlying89 hsz (by rw [hdl]; exact (Nat.min_self _).symm)
      (fun j v hj => by
        rw [Addr.add_lit]
        have h2 : W2.drew.heap[g]? = some (.cells cur 9 (0, 0)) := (hgr2.block g hgw (fun e => by have := Option.some.inj e; omega)).trans b1
        have hj2 := hxi (i + j) v (by rwa [List.getElem?_drop] at hj)
        rw [World.cell?_of_block (a := ⟨g, i + j, none⟩) (w := w) (h2.trans b1.symm)]
        exact hj2)
      (fun j hj => by rw [Mm.cellOf (w := W2.drew) d1 (Array.getElem?_eq_getElem (by omega))]; rfl) (fun j hj => by simp [World.frozen?, show W2.drew.heap[w.heap.size]? = _ from d1]) (fun v hv => h1.out v (List.mem_of_mem_drop hv))
  obtain ⟨cur2, f1, f2, f3⟩ := Mm.setCells_heap (xs.drop i) (i + 1) W2.drew cur1 d1 (by rw [hdl]; omega)
  have HF : Hid (Mm.Own (W2.drew.setCells w.heap.size (i + 1) (xs.drop i)) base 9 (.slice (some ⟨w.heap.size, 0, none⟩) (n + 1) G) (xs.take i ++ y :: xs.drop i) ∧ w.grownBy (W2.drew.setCells w.heap.size (i + 1) (xs.drop i)) none) := by
    refine ⟨Mm.Own.mk f1 hbase (by omega) hGm (by simp [b7]; omega) hGn ?_, ?_⟩
    · have e1 : cur1.toList.take (i + 1) = xs.take i ++ [y] := by
        rw [d3, hRt]
        have : (xs.take i ++ [y]).length = i + 1 := by simp; omega
        exact List.take_left' this
      rw [f3, e1]
      have h3 : (xs.take i ++ [y] ++ xs.drop i).length = n + 1 := by simp; omega
      rw [List.take_left' h3]; simp
    · have h := Mm.grTr (b := W2.drew) ⟨hgr2.os, hgr2.tape, hgr2.output, hgr2.size, hgr2.block⟩ (Mm.setCells_grown w.heap.size (xs.drop i) (i + 1) W2.drew)
      exact ⟨h.os, h.tape, h.output, h.size, fun b hb _ => h.block b hb (fun e => by have := Option.some.inj e; omega)⟩
  have hz2' : ¬ ((i : Int) = (n : Int)) := by omega
  have hz3 : (c : Int) < (n : Int) + 1 := by omega
  have hw1 : IntKind.i64.wrap ((i : Int) + 1) = (i : Int) + 1 := by rw [IntKind.wrap_i64]; omega
  have hGi : ¬ (G = i) := by omega
  have hGim : ¬ (G = i + 1) := by omega
  have hci : ¬ (c = i) := by omega
  have hic : i ≤ c := by omega
  have hb1 : (0 : Int) ≤ (i : Int) + 1 := by omega
  have hin : i ≤ n := by omega
  have htn : ((i : Int) + 1).toNat = i + 1 := by omega
  have hb3 : (i : Int) ≤ (n : Int) := by omega
  have mixed : Tryz.prog.follows .mixedOrders = true := by kernel_rfl
  rw [← hW1] at hrz
  have HW2 : Hid (W2 = W1.setCells w.heap.size i [y]) := hW2
  clear b1 b2 b3 b4 b5 b6 b7 hsz hxi hgw hBw hkk hik hold hG hGm hROW hzc hRl hRt hW1 hW1b hN hOld hgr1 d1 d2 d3 hgr2 hdl f1 f2 f3 hW2
  go_enter Tryz.func53, Tryz.ntmps53
  go_wp2_with (first
    | (at_builtin; refine Lib.wpList_append_run _ rfl _ _ _ _ rfl _ _ rfl rfl _ _ (hrz _) ?_)
    | (at_builtin; refine wpList_copy_runI _ rfl _ _ 89 89 rfl _ _ rfl rfl (hcpA _ _) ?_))
  go_region_law_o (refine step_copy_runI rfl _ _ 89 89 rfl (.slice (some ⟨w.heap.size, i + 1, none⟩) (n - i) (G - (i + 1))) (.slice (some ⟨g, i, none⟩) (n - i) (c - i)) (by simp [Act.eval, Act.put]) (by simp [Act.eval, Act.put]) (hcpB 3 (G - (i + 1)) (c - i)) ?_)
  go_wp2
  go_ret
  exact ⟨G, rfl, HF.out.1, HF.out.2⟩

set_option maxRecDepth 100000 in
theorem infoP : ∃ i, Tryz.prog.info? 94 = some i ∧ i.zero = some (.pointer none) ∧ i.size = 1 ∧ i.bytes = 8 := ⟨_, Tryz.type94, rfl, rfl, rfl⟩

set_option maxRecDepth 100000 in
set_option maxHeartbeats 4000000 in
theorem insP_end (p : Option Addr) (n c : Nat) (xs : List Value) (y : Value) (B base : Nat) (w : World) (HO : Hid (Mm.Own w base 94 (.slice p n c) xs)) (hn : Hid (xs.length = n)) (hy : y.oneCell' = true) (HB : Hid (w.heap[B]? = some (.cells #[y] 94 (0, 0)))) (hl : n < 100000) (hbase : base ≤ w.heap.size) :
    Calls Tryz.prog 76 #[.slice p n c, .int .i64 (n : Int), .slice (some ⟨B, 0, none⟩) 1 1] w fun e w' => ∃ v', e = .returned v' ∧ Mm.Own w' base 94 v' (xs ++ [y]) ∧ w.grownBy w' (Value.slice p n c).ownBlock ∧ (v'.ownBlock = (Value.slice p n c).ownBlock ∨ ∀ g, v'.ownBlock = some g → w.heap.size ≤ g) := by
  obtain ⟨i0, hi0, hz0, hz1, hz2⟩ := infoP
  have hcell : w.cell? ⟨B, 0, none⟩ = some y := Mm.cellOf HB.out rfl
  have hsh := HO.out.shape
  obtain ⟨q, cc, e1, e2, e3, e4, e5⟩ := hsh
  injection e1 with e1 e6 e7
  subst e7
  have HNC : n ≤ c := by rw [e6]; exact e2
  have HC63 : (c : Int) ≤ 9223372036854775807 := by unfold maxLen at e3; omega
  clear e2 e3
  have HZ : p = none → n = 0 ∧ c = 0 := fun h => by
    obtain ⟨h1, h2⟩ := e4 (e1.symm.trans h)
    subst h1
    exact ⟨e6, h2⟩
  have HP : p = none ∨ ∃ g, p = some ⟨g, 0, none⟩ := by
    rcases HO.out.2 with ⟨h, _⟩ | ⟨g, cap, cur, h, _⟩
    · injection h with h; exact Or.inl h
    · injection h with h; exact Or.inr ⟨g, h⟩
  clear e1 e4 e5 e6
  rcases HP with rfl | ⟨g, rfl⟩
  · obtain ⟨rfl, rfl⟩ := HZ rfl
    clear HZ HC63
    go_enter Tryz.func76, Tryz.ntmps76
    go_wp2_with (at_builtin; refine wpList_append_own_at _ rfl _ _ 97 rfl base 94 i0 (.pointer none) 1 8 Tryz.underlying97 hi0 hz0 hz1 hz2 rfl (by decide) _ 0 xs rfl (by have h := HO.out; unfold Mm.Own at h; rw [hn.out] at h; exact h) ⟨B, 0, none⟩ 1 1 [y] rfl rfl (by intro j u hj; cases j with | zero => (simp at hj; subst hj; exact hcell) | succ j => simp at hj) (fun u hu => by rw [List.mem_singleton.1 hu]; exact hy) (by unfold maxLen; omega) (by omega) hbase ?_; intro v' w1 hown hgrow hnil hloc)
    go_ret
    refine ⟨_, rfl, ?_, hgrow, ?_⟩
    · unfold Mm.Own; rw [List.length_append, hn.out]; exact hown
    · rcases hloc with h | h
      · exact Or.inl h
      · exact Or.inr (fun g' hg => by have hg' : v'.ownBlock = some g' := hg; rw [h] at hg'; injection hg' with hg'; omega)
  · clear HZ
    go_enter Tryz.func76, Tryz.ntmps76
    go_wp2_with (at_builtin; refine wpList_append_own_at _ rfl _ _ 97 rfl base 94 i0 (.pointer none) 1 8 Tryz.underlying97 hi0 hz0 hz1 hz2 rfl (by decide) _ n xs rfl (by have h := HO.out; unfold Mm.Own at h; rw [hn.out] at h; exact h) ⟨B, 0, none⟩ 1 1 [y] rfl rfl (by intro j u hj; cases j with | zero => (simp at hj; subst hj; exact hcell) | succ j => simp at hj) (fun u hu => by rw [List.mem_singleton.1 hu]; exact hy) (by unfold maxLen; omega) (by omega) hbase ?_; intro v' w1 hown hgrow hnil hloc)
    all_goals
      go_ret
      refine ⟨_, rfl, ?_, hgrow, ?_⟩
      · unfold Mm.Own; rw [List.length_append, hn.out]; exact hown
      · rcases hloc with h | h
        · exact Or.inl h
        · exact Or.inr (fun g' hg => by have hg' : v'.ownBlock = some g' := hg; rw [h] at hg'; injection hg' with hg'; omega)

set_option maxRecDepth 100000 in
set_option maxHeartbeats 4000000 in
theorem insP_room (g n c i : Nat) (xs : List Value) (y : Value) (B base : Nat) (w : World) (HO : Hid (Mm.Own w base 94 (.slice (some ⟨g, 0, none⟩) n c) xs)) (hi : i < n) (hroom : n + 1 ≤ c) (hy : Hid (y.oneCell' = true)) (h1 : Hid (∀ x ∈ xs, x.oneCell' = true)) (HB : Hid (w.heap[B]? = some (.cells #[y] 94 (0, 0)))) (hne : Hid (B ≠ g)) :
    Calls Tryz.prog 76 #[.slice (some ⟨g, 0, none⟩) n c, .int .i64 (i : Int), .slice (some ⟨B, 0, none⟩) 1 1] w fun e w' => e = .returned (.slice (some ⟨g, 0, none⟩) (n + 1) c) ∧ Mm.Own w' base 94 (.slice (some ⟨g, 0, none⟩) (n + 1) c) (xs.take i ++ y :: xs.drop i) ∧ w.grownBy w' (some g) := by
  obtain ⟨i0, hi0, hz0, hzs, hz2⟩ := infoP
  obtain ⟨cur, b1, b2, b3, b4, b5, b6, b7⟩ := HO.out.block
  have HC63 : (c : Int) ≤ 9223372036854775807 := by unfold maxLen at b5; omega
  have hov : ∀ lb cb, (callFunc 95 #[.slice (some ⟨B, 0, none⟩) 1 1, .slice (some ⟨g, i + 1, none⟩) lb cb]).run Tryz.prog w = .ok (.value (.bool false)) w := fun lb cb => by
    rw [run_callFunc_extern Tryz.func95 (by kernel_rfl) (by kernel_rfl) (by kernel_rfl) (e := Extern.SlicesOverlaps.overlaps #[97, 97] #[4]) (by kernel_rfl),
      Lib.run_overlaps_apart w 97 4 94 Tryz.underlying97 1 Tryz.sizeOf94 ⟨B, 0, none⟩ ⟨g, i + 1, none⟩ 1 1 lb cb hne.out 94 94 1 c (by simp [World.shape?, HB.out]) (by simp [World.shape?, b1, b2]) (by omega) (by simp [World.frozen?, HB.out]) (by simp [World.frozen?, HB.out])]
    rfl
  have hsz : (Tryz.prog.info? 94).map (·.size) = some 1 := by rw [hi0]; simp [hzs]
  have hxi : ∀ j v, xs[j]? = some v → w.cell? ⟨g, j, none⟩ = some v := fun j v hj => by
    have hjn : j < n := by have := (List.getElem?_eq_some_iff.1 hj).1; omega
    rw [← b3, List.getElem?_take_of_lt hjn] at hj
    exact Mm.cellOf b1 (by simpa using hj)
  have hsp : ∀ j, j < n + 1 → (w.cell? ⟨g, j, none⟩).isSome = true := fun j hj => by
    rw [Mm.cellOf b1 (Array.getElem?_eq_getElem (by omega))]; rfl
  have hfz : ∀ j, w.frozen? ⟨g, j, none⟩ = false := fun j => by simp [World.frozen?, b1]
  have hdl : (xs.drop i).length = n - i := by rw [List.length_drop, b7]
  have hcp1 : ∀ ty dc sc, (Builtin.copy_ #[97, 97] ty #[.slice (some ⟨g, i + 1, none⟩) (n - i) dc, .slice (some ⟨g, i, none⟩) (n + 1 - i) sc]).run Tryz.prog w.drew = .ok (goInt (xs.drop i).length) (w.drew.setCells g (i + 1) (xs.drop i)) := fun ty dc sc =>
    run_copy_cells w.drew _ _ ty 94 g (i + 1) _ dc ⟨g, i, none⟩ _ sc (xs.drop i) Tryz.underlying97 hsz (by rw [hdl]; exact (Nat.min_eq_right (by omega)).symm)
      (fun j v hj => by rw [Addr.add_lit]; exact hxi (i + j) v (by rwa [List.getElem?_drop] at hj))
      (fun j hj => by exact hsp _ (by omega)) (fun j hj => hfz _) (fun v hv => h1.out v (List.mem_of_mem_drop hv))
  obtain ⟨cur1, d1, d2, d3⟩ := Mm.setCells_heap (xs.drop i) (i + 1) w.drew cur b1 (by rw [hdl, b2]; omega)
  obtain ⟨W1, hW1⟩ : ∃ W1, W1 = w.drew.setCells g (i + 1) (xs.drop i) := ⟨_, rfl⟩
  rw [← hW1] at hcp1 d1
  have hgr1 : w.grownBy W1 (some g) := by
    rw [hW1]
    have h := Mm.setCells_grown g (xs.drop i) (i + 1) w.drew
    exact ⟨h.os, h.tape, h.output, h.size, h.block⟩
  have hcp2 : ∀ ty dc, (Builtin.copy_ #[97, 97] ty #[.slice (some ⟨g, i, none⟩) (n + 1 - i) dc, .slice (some ⟨B, 0, none⟩) 1 1]).run Tryz.prog W1 = .ok (goInt [y].length) (W1.setCells g i [y]) := fun ty dc =>
    run_copy_cells W1 _ _ ty 94 g i _ dc ⟨B, 0, none⟩ 1 1 [y] Tryz.underlying97 hsz (show 1 = Nat.min 1 (n + 1 - i) from (Nat.min_eq_left (by omega)).symm)
      (fun j v hj => by
        match j, hj with
        | 0, hj =>
          simp at hj; subst hj
          rw [Addr.add_lit]
          have hB2 : W1.heap[B]? = some (.cells #[y] 94 (0, 0)) := (hgr1.block B (Mm.heapLt HB.out) (fun e => hne.out (Option.some.inj e))).trans HB.out
          exact Mm.cellOf hB2 rfl)
      (fun j hj => by rw [Mm.cellOf d1 (Array.getElem?_eq_getElem (by have : j < 1 := hj; omega))]; rfl) (fun j hj => by simp [World.frozen?, d1]) (fun v hv => by rw [List.mem_singleton.1 hv]; exact hy.out)
  obtain ⟨cur2, f1, f2, f3⟩ := Mm.setCells_heap [y] i W1 cur1 d1 (by simp; omega)
  have HF : Hid (Mm.Own (W1.setCells g i [y]) base 94 (.slice (some ⟨g, 0, none⟩) (n + 1) c) (xs.take i ++ y :: xs.drop i) ∧ w.grownBy (W1.setCells g i [y]) (some g)) := by
    refine ⟨Mm.Own.mk f1 b6 (by omega) b5 (by simp [b7]; omega) hroom ?_, Mm.grTr hgr1 (Mm.setCells_grown g [y] i W1)⟩
    have hl := Mm.take_ins cur.toList i y n hi (by simp; omega)
    rw [b3] at hl
    rw [f3, d3, ← hl]
    rfl
  have hz2' : ¬ ((i : Int) = (n : Int)) := by omega
  have hz3 : ¬ ((c : Int) < (n : Int) + 1) := by omega
  have hw1 : IntKind.i64.wrap ((i : Int) + 1) = (i : Int) + 1 := by rw [IntKind.wrap_i64]; omega
  have hb2 : ¬ (c = i + 1) := by omega
  have hb4 : ¬ (c = i) := by omega
  have hb3 : (i : Int) ≤ (n : Int) + 1 := by omega
  have hb1 : (0 : Int) ≤ (i : Int) + 1 := by omega
  have hin : i ≤ n := by omega
  have htn : ((i : Int) + 1).toNat = i + 1 := by omega
  have mixed : Tryz.prog.follows .mixedOrders = true := by kernel_rfl
  clear b1 b2 b3 b4 b5 b6 b7 hsz hxi hsp hfz hdl d1 d2 d3 hW1 hgr1 f1 f2 f3
  go_enter Tryz.func76, Tryz.ntmps76
  go_wp2_with (simp only [hov])
  go_region_law_o (refine step_copy_runI rfl _ _ 97 97 rfl _ _ (by simp [Act.eval, Act.put]) (by simp [Act.eval, Act.put]) (hcp1 _ _ _) ?_)
  go_wp2_with (at_builtin; refine wpList_copy_runI _ rfl _ _ 97 97 rfl _ _ rfl rfl (hcp2 _ _) ?_)
  go_ret
  exact ⟨rfl, HF.out.1, HF.out.2⟩

set_option maxRecDepth 100000 in
set_option maxHeartbeats 4000000 in
theorem insP_grow (g n c i : Nat) (xs : List Value) (y : Value) (B base : Nat) (w : World) (HO : Hid (Mm.Own w base 94 (.slice (some ⟨g, 0, none⟩) n c) xs)) (hi : i < n) (hroom : c < n + 1) (hl : n < 100000) (hy : Hid (y.oneCell' = true)) (h1 : Hid (∀ x ∈ xs, x.oneCell' = true)) (HB : Hid (w.heap[B]? = some (.cells #[y] 94 (0, 0)))) (hbase : base ≤ w.heap.size) :
    Calls Tryz.prog 76 #[.slice (some ⟨g, 0, none⟩) n c, .int .i64 (i : Int), .slice (some ⟨B, 0, none⟩) 1 1] w fun e w' => ∃ G, e = .returned (.slice (some ⟨w.heap.size, 0, none⟩) (n + 1) G) ∧ Mm.Own w' base 94 (.slice (some ⟨w.heap.size, 0, none⟩) (n + 1) G) (xs.take i ++ y :: xs.drop i) ∧ w.grownBy w' none := by
  obtain ⟨i0, hi0, hz0, hzs, hzb⟩ := infoP
  obtain ⟨cur, b1, b2, b3, b4, b5, b6, b7⟩ := HO.out.block
  have hsz : (Tryz.prog.info? 94).map (·.size) = some 1 := by rw [hi0]; simp [hzs]
  have hxi : ∀ j v, xs[j]? = some v → w.cell? ⟨g, j, none⟩ = some v := fun j v hj => by
    have hjn : j < n := by have := (List.getElem?_eq_some_iff.1 hj).1; omega
    rw [← b3, List.getElem?_take_of_lt hjn] at hj
    exact Mm.cellOf b1 (by simpa using hj)
  have hgw : g < w.heap.size := Mm.heapLt b1
  have hBw : B < w.heap.size := Mm.heapLt HB.out
  have hkk : (n : Int) + 1 - (i : Int) = ((n + 1 - i : Nat) : Int) := by omega
  have hik : i + (n + 1 - i) = n + 1 := by omega
  have hold : (Builtin.firstCells i0.size i (.slice (some ⟨g, 0, none⟩) i c)).run Tryz.prog w.drew = .ok (xs.take i).toArray w.drew := by
    rw [hzs]
    exact run_firstCells_some w.drew 1 i ⟨g, 0, none⟩ i c (xs.take i) (by rw [List.length_take]; omega) (fun j v hj => by
      rw [Addr.add_lit, Nat.zero_add]
      rw [List.getElem?_take] at hj
      split at hj
      · exact hxi j v hj
      · cases hj)
  have hrz : ∀ ty, (Builtin.append_ #[97, 3] ty #[.slice (some ⟨g, 0, none⟩) i c, .int .i64 ((n : Int) + 1 - (i : Int))]).run Tryz.prog w =
      .ok (.slice (some ⟨w.heap.size, 0, none⟩) (n + 1) (grownCap w (n + 1) c 94)) (w.drew.alloc (.cells ((xs.take i).toArray ++ Builtin.zeroCells (Value.cells (.pointer none)) (n + 1 - i) ++ Builtin.zeroCells (Value.cells (.pointer none)) (grownCap w (n + 1) c 94 - (n + 1))) 94)) := fun ty => by
    have h := Lib.run_append_grow_zeros w 97 3 ty 94 i0 _ .i64 .i64 Tryz.underlying97 Tryz.underlying3 hi0 hz0 (some ⟨g, 0, none⟩) i c (xs.take i) hold (n + 1 - i) (by omega) (by omega) (by omega) (by omega) (by rw [hzb]; omega) (by rw [hzb, hik]; exact growslice_fits hroom (by omega))
    rw [hik] at h
    rw [hkk]
    exact h
  obtain ⟨G, hG⟩ : ∃ G, G = grownCap w (n + 1) c 94 := ⟨_, rfl⟩
  have hGn : n + 1 ≤ G := by rw [hG]; exact grownCap_ge w _ _ _
  have hGm : G ≤ maxLen := by rw [hG]; exact grownCap_le_maxLen w (n + 1) c 94 (by unfold maxLen; omega)
  have hG63 : G ≤ 9223372036854775807 := by unfold maxLen at hGm; omega
  obtain ⟨ROW, hROW⟩ : ∃ ROW : Array Value, ROW = (xs.take i).toArray ++ Builtin.zeroCells (Value.cells (.pointer none)) (n + 1 - i) ++ Builtin.zeroCells (Value.cells (.pointer none)) (G - (n + 1)) := ⟨_, rfl⟩
  rw [← hG] at hrz
  rw [← hROW] at hrz
  have hzc : ∀ k, (Builtin.zeroCells (Value.cells (.pointer none)) k).size = k := fun k => by simp [Builtin.zeroCells, Value.cells]
  have hRl : ROW.size = G := by
    rw [hROW, Array.size_append, Array.size_append, hzc, hzc]
    have : (xs.take i).toArray.size = i := by simp; omega
    omega
  have hRt : ROW.toList.take i = xs.take i := by
    rw [hROW, Array.toList_append, Array.toList_append, List.append_assoc]
    exact List.take_left' (by simp; omega)
  obtain ⟨W1, hW1⟩ : ∃ W1, W1 = w.drew.alloc (.cells ROW 94) := ⟨_, rfl⟩
  have hW1b : W1 = (w.alloc (.cells ROW 94)).drew := hW1
  have hN : W1.heap[w.heap.size]? = some (.cells ROW 94 (0, 0)) := by rw [hW1]; exact Mm.newAt w.drew _ rfl
  have hOld : ∀ b, b < w.heap.size → W1.heap[b]? = w.heap[b]? := fun b hb => by rw [hW1]; exact Mm.oldAt w.drew _ hb
  have hgr1 : w.grownBy W1 (some w.heap.size) := by rw [hW1]; exact ⟨rfl, rfl, rfl, by simp, fun b hb _ => Mm.oldAt w.drew _ hb⟩
  have hcpA : ∀ ty dc, (Builtin.copy_ #[97, 97] ty #[.slice (some ⟨w.heap.size, i, none⟩) (n + 1 - i) dc, .slice (some ⟨B, 0, none⟩) 1 1]).run Tryz.prog W1 = .ok (goInt [y].length) (W1.setCells w.heap.size i [y]) := fun ty dc =>
    run_copy_cells W1 _ _ ty 94 w.heap.size i _ dc ⟨B, 0, none⟩ 1 1 [y] Tryz.underlying97 hsz (show 1 = Nat.min 1 (n + 1 - i) from (Nat.min_eq_left (by omega)).symm)
      (fun j v hj => by
        match j, hj with
        | 0, hj =>
          simp at hj; subst hj
          rw [Addr.add_lit]
          exact Mm.cellOf ((hOld B hBw).trans HB.out) rfl)
      (fun j hj => by rw [Mm.cellOf hN (Array.getElem?_eq_getElem (by have : j < 1 := hj; omega))]; rfl) (fun j hj => by simp [World.frozen?, hN]) (fun v hv => by rw [List.mem_singleton.1 hv]; exact hy.out)
  obtain ⟨cur1, d1, d2, d3⟩ := Mm.setCells_heap [y] i W1 ROW hN (by simp; omega)
  obtain ⟨W2, hW2⟩ : ∃ W2, W2 = W1.setCells w.heap.size i [y] := ⟨_, rfl⟩
  rw [← hW2] at hcpA d1
  have hgr2 : w.grownBy W2 (some w.heap.size) := by rw [hW2]; exact Mm.grTr hgr1 (Mm.setCells_grown _ _ _ _)
  have hdl : (xs.drop i).length = n - i := by rw [List.length_drop, b7]
  have hcpB : ∀ ty dc sc, (Builtin.copy_ #[97, 97] ty #[.slice (some ⟨w.heap.size, i + 1, none⟩) (n - i) dc, .slice (some ⟨g, i, none⟩) (n - i) sc]).run Tryz.prog W2.drew = .ok (goInt (xs.drop i).length) (W2.drew.setCells w.heap.size (i + 1) (xs.drop i)) := fun ty dc sc =>
    run_copy_cells W2.drew _ _ ty 94 w.heap.size (i + 1) _ dc ⟨g, i, none⟩ _ sc (xs.drop i) Tryz.underlying97 hsz (by rw [hdl]; exact (Nat.min_self _).symm)
      (fun j v hj => by
        rw [Addr.add_lit]
        have h2 : W2.drew.heap[g]? = some (.cells cur 94 (0, 0)) := (hgr2.block g hgw (fun e => by have := Option.some.inj e; omega)).trans b1
        have hj2 := hxi (i + j) v (by rwa [List.getElem?_drop] at hj)
        rw [World.cell?_of_block (a := ⟨g, i + j, none⟩) (w := w) (h2.trans b1.symm)]
        exact hj2)
      (fun j hj => by rw [Mm.cellOf (w := W2.drew) d1 (Array.getElem?_eq_getElem (by omega))]; rfl) (fun j hj => by simp [World.frozen?, show W2.drew.heap[w.heap.size]? = _ from d1]) (fun v hv => h1.out v (List.mem_of_mem_drop hv))
  obtain ⟨cur2, f1, f2, f3⟩ := Mm.setCells_heap (xs.drop i) (i + 1) W2.drew cur1 d1 (by rw [hdl]; omega)
  have HF : Hid (Mm.Own (W2.drew.setCells w.heap.size (i + 1) (xs.drop i)) base 94 (.slice (some ⟨w.heap.size, 0, none⟩) (n + 1) G) (xs.take i ++ y :: xs.drop i) ∧ w.grownBy (W2.drew.setCells w.heap.size (i + 1) (xs.drop i)) none) := by
    refine ⟨Mm.Own.mk f1 hbase (by omega) hGm (by simp [b7]; omega) hGn ?_, ?_⟩
    · have e1 : cur1.toList.take (i + 1) = xs.take i ++ [y] := by
        rw [d3, hRt]
        have : (xs.take i ++ [y]).length = i + 1 := by simp; omega
        exact List.take_left' this
      rw [f3, e1]
      have h3 : (xs.take i ++ [y] ++ xs.drop i).length = n + 1 := by simp; omega
      rw [List.take_left' h3]; simp
    · have h := Mm.grTr (b := W2.drew) ⟨hgr2.os, hgr2.tape, hgr2.output, hgr2.size, hgr2.block⟩ (Mm.setCells_grown w.heap.size (xs.drop i) (i + 1) W2.drew)
      exact ⟨h.os, h.tape, h.output, h.size, fun b hb _ => h.block b hb (fun e => by have := Option.some.inj e; omega)⟩
  have hz2' : ¬ ((i : Int) = (n : Int)) := by omega
  have hz3 : (c : Int) < (n : Int) + 1 := by omega
  have hw1 : IntKind.i64.wrap ((i : Int) + 1) = (i : Int) + 1 := by rw [IntKind.wrap_i64]; omega
  have hGi : ¬ (G = i) := by omega
  have hGim : ¬ (G = i + 1) := by omega
  have hci : ¬ (c = i) := by omega
  have hic : i ≤ c := by omega
  have hb1 : (0 : Int) ≤ (i : Int) + 1 := by omega
  have hin : i ≤ n := by omega
  have htn : ((i : Int) + 1).toNat = i + 1 := by omega
  have hb3 : (i : Int) ≤ (n : Int) := by omega
  have mixed : Tryz.prog.follows .mixedOrders = true := by kernel_rfl
  rw [← hW1] at hrz
  have HW2 : Hid (W2 = W1.setCells w.heap.size i [y]) := hW2
  clear b1 b2 b3 b4 b5 b6 b7 hsz hxi hgw hBw hkk hik hold hG hGm hROW hzc hRl hRt hW1 hW1b hN hOld hgr1 d1 d2 d3 hgr2 hdl f1 f2 f3 hW2
  go_enter Tryz.func76, Tryz.ntmps76
  go_wp2_with (first
    | (at_builtin; refine Lib.wpList_append_run _ rfl _ _ _ _ rfl _ _ rfl rfl _ _ (hrz _) ?_)
    | (at_builtin; refine wpList_copy_runI _ rfl _ _ 97 97 rfl _ _ rfl rfl (hcpA _ _) ?_))
  go_region_law_o (refine step_copy_runI rfl _ _ 97 97 rfl (.slice (some ⟨w.heap.size, i + 1, none⟩) (n - i) (G - (i + 1))) (.slice (some ⟨g, i, none⟩) (n - i) (c - i)) (by simp [Act.eval, Act.put]) (by simp [Act.eval, Act.put]) (hcpB 3 (G - (i + 1)) (c - i)) ?_)
  go_wp2
  go_ret
  exact ⟨G, rfl, HF.out.1, HF.out.2⟩

end Go.Proofs.YtjnaafgiokdcbaaGreatDoor

/- slices.Insert, whole; slices.Delete. -/
namespace Go.Proofs.YtjnaafgiokdcbaaGreatDoor
open Go.RowKit

theorem insS_any (p : Option Addr) (n c i : Nat) (xs : List Value) (y : Value) (B base : Nat) (w : World) (HO : Hid (Mm.Own w base 9 (.slice p n c) xs)) (hn : Hid (xs.length = n)) (hi : i ≤ n) (hy : y.oneCell' = true) (h1 : Hid (∀ x ∈ xs, x.oneCell' = true)) (HB : Hid (w.heap[B]? = some (.cells #[y] 9 (0, 0)))) (hne : Hid (∀ g, p = some ⟨g, 0, none⟩ → B ≠ g)) (hl : n < 100000) (hbase : base ≤ w.heap.size) :
    Calls Tryz.prog 53 #[.slice p n c, .int .i64 (i : Int), .slice (some ⟨B, 0, none⟩) 1 1] w fun e w' => ∃ v', e = .returned v' ∧ Mm.Own w' base 9 v' (xs.take i ++ y :: xs.drop i) ∧ w.grownBy w' (Value.slice p n c).ownBlock ∧ (v'.ownBlock = (Value.slice p n c).ownBlock ∨ ∀ g, v'.ownBlock = some g → w.heap.size ≤ g) := by
  rcases Nat.lt_or_ge i n with h | h
  · obtain ⟨g, hg⟩ : ∃ g, p = some ⟨g, 0, none⟩ := by
      rcases HO.out.2 with ⟨h0, h2⟩ | ⟨g, cap, cur, h0, _⟩
      · rw [hn.out] at h2; omega
      · injection h0 with h0; exact ⟨g, h0⟩
    subst hg
    rcases Nat.lt_or_ge c (n + 1) with hc | hc
    · refine (insS_grow g n c i xs y B base w HO h hc hl (Mm.hid hy) h1 HB hbase).mono ?_
      rintro e w' ⟨G, rfl, a1, a2⟩
      refine ⟨_, rfl, a1, ⟨a2.os, a2.tape, a2.output, a2.size, fun b hb _ => a2.block b hb (by simp)⟩, Or.inr (fun g' hg => ?_)⟩
      have hg' : some w.heap.size = some g' := hg
      exact Nat.le_of_eq (Option.some.inj hg')
    · refine (insS_room g n c i xs y B base w HO h hc (Mm.hid hy) h1 HB (Mm.hid (hne.out g rfl))).mono ?_
      rintro e w' ⟨rfl, a1, a2⟩
      exact ⟨_, rfl, a1, a2, Or.inl rfl⟩
  · have hin : i = n := by omega
    subst hin
    refine (insS_end p i c xs y B base w HO hn hy HB hl hbase).mono ?_
    rintro e w' ⟨v', rfl, a1, a2⟩
    refine ⟨v', rfl, ?_, a2⟩
    rw [List.take_of_length_le (by rw [hn.out]; exact Nat.le_refl _), List.drop_of_length_le (by rw [hn.out]; exact Nat.le_refl _)]
    exact a1

set_option maxRecDepth 100000 in
set_option maxHeartbeats 4000000 in
theorem delS_any (g n c i j : Nat) (xs : List Value) (base : Nat) (w : World) (HO : Hid (Mm.Own w base 9 (.slice (some ⟨g, 0, none⟩) n c) xs)) (hij : i < j) (hj : j ≤ n) (h1 : Hid (∀ x ∈ xs, x.oneCell' = true)) :
    Calls Tryz.prog 59 #[.slice (some ⟨g, 0, none⟩) n c, .int .i64 (i : Int), .int .i64 (j : Int)] w fun e w' => e = .returned (.slice (some ⟨g, 0, none⟩) (i + (n - j)) c) ∧ Mm.Own w' base 9 (.slice (some ⟨g, 0, none⟩) (i + (n - j)) c) (xs.take i ++ xs.drop j) ∧ w.grownBy w' (some g) := by
  obtain ⟨i0, hi0, hz0, hzs, hzb⟩ := infoS
  obtain ⟨cur, b1, b2, b3, b4, b5, b6, b7⟩ := HO.out.block
  have HC63 : (c : Int) ≤ 9223372036854775807 := by unfold maxLen at b5; omega
  have hxi : ∀ t v, xs[t]? = some v → w.cell? ⟨g, t, none⟩ = some v := fun t v ht => by
    have htn : t < n := by have := (List.getElem?_eq_some_iff.1 ht).1; omega
    rw [← b3, List.getElem?_take_of_lt htn] at ht
    exact Mm.cellOf b1 (by simpa using ht)
  have hsp : ∀ t, t < c → (w.cell? ⟨g, t, none⟩).isSome = true := fun t ht => by
    rw [Mm.cellOf b1 (Array.getElem?_eq_getElem (by omega))]; rfl
  have hfz : ∀ t, w.frozen? ⟨g, t, none⟩ = false := fun t => by simp [World.frozen?, b1]
  have hdl : (xs.drop j).length = n - j := by rw [List.length_drop, b7]
  obtain ⟨A, hA, hsrc⟩ : ∃ A : Addr, (if c = j then (⟨g, 0, none⟩ : Addr) else ⟨g, j, none⟩) = A ∧ Hid (∀ t u, (xs.drop j)[t]? = some u → w.drew.cell? (A.add t) = some u) := by
    by_cases h : c = j
    · refine ⟨⟨g, 0, none⟩, by simp [h], fun t u hu => ?_⟩
      have h0 : (xs.drop j).length = 0 := by rw [hdl]; omega
      rw [List.length_eq_zero_iff.1 h0] at hu
      simp at hu
    · refine ⟨⟨g, j, none⟩, by simp [h], fun t u hu => ?_⟩
      rw [Addr.add_lit]
      exact hxi (j + t) u (by rwa [List.getElem?_drop] at hu)
  have s1 : Hid ((xs.drop j).length = (n - j) * 1) := by rw [Nat.mul_one]; exact hdl
  have s2 : Hid (∀ u ∈ xs.drop j, u.oneCell' = true) := fun u hu => h1.out u (List.mem_of_mem_drop hu)
  have s3 : Hid (∀ t, t < (xs.drop j).length → (w.drew.cell? ⟨g, 0 + i * 1 + t, none⟩).isSome = true ∧ w.drew.frozen? ⟨g, 0 + i * 1 + t, none⟩ = false) := fun t ht => ⟨hsp _ (by rw [hdl] at ht; omega), hfz _⟩
  obtain ⟨W1, hW1⟩ : ∃ W1, W1 = w.drew.setCells g (0 + i * 1) (xs.drop j) := ⟨_, rfl⟩
  obtain ⟨cur1, d1, d2, d3⟩ := Mm.setCells_heap (xs.drop j) (0 + i * 1) w.drew cur b1 (by rw [hdl]; omega)
  rw [← hW1] at d1
  have hgr1 : w.grownBy W1 (some g) := by
    rw [hW1]
    have h := Mm.setCells_grown g (xs.drop j) (0 + i * 1) w.drew
    exact ⟨h.os, h.tape, h.output, h.size, h.block⟩
  have hcl : ∀ ty cc, (Builtin.clear_ #[89] ty #[.slice (some ⟨g, i + (n - j), none⟩) (n - (i + (n - j))) cc]).run Tryz.prog W1 = .ok (.tuple #[]) (W1.setCells g (i + (n - j)) (List.replicate (n - (i + (n - j))) (.string ⟨#[]⟩))) := fun ty cc =>
    Lib.run_clear_slice W1 _ 9 ty _ Tryz.underlying89 Tryz.zeroValue9 rfl rfl g (i + (n - j)) _ _ (by omega) (fun t ht => by rw [Mm.cellOf d1 (Array.getElem?_eq_getElem (by omega))]; rfl) (fun t ht => by simp [World.frozen?, d1])
  obtain ⟨cur2, f1, f2, f3⟩ := Mm.setCells_heap (List.replicate (n - (i + (n - j))) (.string ⟨#[]⟩)) (i + (n - j)) W1 cur1 d1 (by rw [List.length_replicate]; omega)
  have HF : Hid (Mm.Own (W1.setCells g (i + (n - j)) (List.replicate (n - (i + (n - j))) (.string ⟨#[]⟩))) base 9 (.slice (some ⟨g, 0, none⟩) (i + (n - j)) c) (xs.take i ++ xs.drop j) ∧ w.grownBy (W1.setCells g (i + (n - j)) (List.replicate (n - (i + (n - j))) (.string ⟨#[]⟩))) (some g)) := by
    have hl : (xs.take i ++ xs.drop j).length = i + (n - j) := by simp; omega
    refine ⟨Mm.Own.mk f1 b6 (by omega) b5 hl (by omega) ?_, Mm.grTr hgr1 (Mm.setCells_grown g _ _ W1)⟩
    have e1 : cur1.toList.take (i + (n - j)) = xs.take i ++ xs.drop j := by
      rw [d3, show 0 + i * 1 = i by omega]
      have e2 : cur.toList.take i = xs.take i := by rw [← b3, List.take_take, Nat.min_eq_left (by omega)]
      rw [e2]
      exact List.take_left' hl
    rw [f3, e1, List.append_assoc]
    exact List.take_left' hl
  have HW : Hid (W1 = w.drew.setCells g (0 + i * 1) (xs.drop j)) := hW1
  have hic : i ≤ c := by omega
  have hjc : j ≤ c := by omega
  have hne : ¬ ((i : Int) = (j : Int)) := by omega
  have hnc : n ≤ c := b4
  have hml : i + (n - j) ≤ n := by omega
  have hmc : ¬ (c = i + (n - j)) := by omega
  have mixed : Tryz.prog.follows .mixedOrders = true := by kernel_rfl
  clear b1 b2 b3 b4 b5 b6 b7 hxi hsp hfz hdl d1 d2 d3 hgr1 f1 f2 f3 hW1
  go_enter Tryz.func59, Tryz.ntmps59
  go_wp2_with fail
  go_region_law_o (refine step_append_room rfl (.tmp 22) (.tmp 25) 89 rfl 9 i0 1 Tryz.underlying89 hi0 hzs g 0 i c (by simp [Act.eval, Act.put]) A (n - j) (c - j) (xs.drop j) (by simp [Act.eval, Act.put, ← hA]; try (split <;> rfl)) s1.out hsrc.out s2.out (by omega) s3.out ?_; rw [← HW.out])
  go_wp2
  all_goals
    go_ret
    first
    | exact ⟨rfl, HF.out.1, HF.out.2⟩
    | (have e : c = j := by assumption
       have HF2 := HF.out
       rw [e] at HF2
       exact ⟨rfl, HF2.1, HF2.2⟩)

theorem insP_any (p : Option Addr) (n c i : Nat) (xs : List Value) (y : Value) (B base : Nat) (w : World) (HO : Hid (Mm.Own w base 94 (.slice p n c) xs)) (hn : Hid (xs.length = n)) (hi : i ≤ n) (hy : y.oneCell' = true) (h1 : Hid (∀ x ∈ xs, x.oneCell' = true)) (HB : Hid (w.heap[B]? = some (.cells #[y] 94 (0, 0)))) (hne : Hid (∀ g, p = some ⟨g, 0, none⟩ → B ≠ g)) (hl : n < 100000) (hbase : base ≤ w.heap.size) :
    Calls Tryz.prog 76 #[.slice p n c, .int .i64 (i : Int), .slice (some ⟨B, 0, none⟩) 1 1] w fun e w' => ∃ v', e = .returned v' ∧ Mm.Own w' base 94 v' (xs.take i ++ y :: xs.drop i) ∧ w.grownBy w' (Value.slice p n c).ownBlock ∧ (v'.ownBlock = (Value.slice p n c).ownBlock ∨ ∀ g, v'.ownBlock = some g → w.heap.size ≤ g) := by
  rcases Nat.lt_or_ge i n with h | h
  · obtain ⟨g, hg⟩ : ∃ g, p = some ⟨g, 0, none⟩ := by
      rcases HO.out.2 with ⟨h0, h2⟩ | ⟨g, cap, cur, h0, _⟩
      · rw [hn.out] at h2; omega
      · injection h0 with h0; exact ⟨g, h0⟩
    subst hg
    rcases Nat.lt_or_ge c (n + 1) with hc | hc
    · refine (insP_grow g n c i xs y B base w HO h hc hl (Mm.hid hy) h1 HB hbase).mono ?_
      rintro e w' ⟨G, rfl, a1, a2⟩
      refine ⟨_, rfl, a1, ⟨a2.os, a2.tape, a2.output, a2.size, fun b hb _ => a2.block b hb (by simp)⟩, Or.inr (fun g' hg => ?_)⟩
      have hg' : some w.heap.size = some g' := hg
      exact Nat.le_of_eq (Option.some.inj hg')
    · refine (insP_room g n c i xs y B base w HO h hc (Mm.hid hy) h1 HB (Mm.hid (hne.out g rfl))).mono ?_
      rintro e w' ⟨rfl, a1, a2⟩
      exact ⟨_, rfl, a1, a2, Or.inl rfl⟩
  · have hin : i = n := by omega
    subst hin
    refine (insP_end p i c xs y B base w HO hn hy HB hl hbase).mono ?_
    rintro e w' ⟨v', rfl, a1, a2⟩
    refine ⟨v', rfl, ?_, a2⟩
    rw [List.take_of_length_le (by rw [hn.out]; exact Nat.le_refl _), List.drop_of_length_le (by rw [hn.out]; exact Nat.le_refl _)]
    exact a1

set_option maxRecDepth 100000 in
set_option maxHeartbeats 4000000 in
theorem delP_any (g n c i j : Nat) (xs : List Value) (base : Nat) (w : World) (HO : Hid (Mm.Own w base 94 (.slice (some ⟨g, 0, none⟩) n c) xs)) (hij : i < j) (hj : j ≤ n) (h1 : Hid (∀ x ∈ xs, x.oneCell' = true)) :
    Calls Tryz.prog 80 #[.slice (some ⟨g, 0, none⟩) n c, .int .i64 (i : Int), .int .i64 (j : Int)] w fun e w' => e = .returned (.slice (some ⟨g, 0, none⟩) (i + (n - j)) c) ∧ Mm.Own w' base 94 (.slice (some ⟨g, 0, none⟩) (i + (n - j)) c) (xs.take i ++ xs.drop j) ∧ w.grownBy w' (some g) := by
  obtain ⟨i0, hi0, hz0, hzs, hzb⟩ := infoP
  obtain ⟨cur, b1, b2, b3, b4, b5, b6, b7⟩ := HO.out.block
  have HC63 : (c : Int) ≤ 9223372036854775807 := by unfold maxLen at b5; omega
  have hxi : ∀ t v, xs[t]? = some v → w.cell? ⟨g, t, none⟩ = some v := fun t v ht => by
    have htn : t < n := by have := (List.getElem?_eq_some_iff.1 ht).1; omega
    rw [← b3, List.getElem?_take_of_lt htn] at ht
    exact Mm.cellOf b1 (by simpa using ht)
  have hsp : ∀ t, t < c → (w.cell? ⟨g, t, none⟩).isSome = true := fun t ht => by
    rw [Mm.cellOf b1 (Array.getElem?_eq_getElem (by omega))]; rfl
  have hfz : ∀ t, w.frozen? ⟨g, t, none⟩ = false := fun t => by simp [World.frozen?, b1]
  have hdl : (xs.drop j).length = n - j := by rw [List.length_drop, b7]
  obtain ⟨A, hA, hsrc⟩ : ∃ A : Addr, (if c = j then (⟨g, 0, none⟩ : Addr) else ⟨g, j, none⟩) = A ∧ Hid (∀ t u, (xs.drop j)[t]? = some u → w.drew.cell? (A.add t) = some u) := by
    by_cases h : c = j
    · refine ⟨⟨g, 0, none⟩, by simp [h], fun t u hu => ?_⟩
      have h0 : (xs.drop j).length = 0 := by rw [hdl]; omega
      rw [List.length_eq_zero_iff.1 h0] at hu
      simp at hu
    · refine ⟨⟨g, j, none⟩, by simp [h], fun t u hu => ?_⟩
      rw [Addr.add_lit]
      exact hxi (j + t) u (by rwa [List.getElem?_drop] at hu)
  have s1 : Hid ((xs.drop j).length = (n - j) * 1) := by rw [Nat.mul_one]; exact hdl
  have s2 : Hid (∀ u ∈ xs.drop j, u.oneCell' = true) := fun u hu => h1.out u (List.mem_of_mem_drop hu)
  have s3 : Hid (∀ t, t < (xs.drop j).length → (w.drew.cell? ⟨g, 0 + i * 1 + t, none⟩).isSome = true ∧ w.drew.frozen? ⟨g, 0 + i * 1 + t, none⟩ = false) := fun t ht => ⟨hsp _ (by rw [hdl] at ht; omega), hfz _⟩
  obtain ⟨W1, hW1⟩ : ∃ W1, W1 = w.drew.setCells g (0 + i * 1) (xs.drop j) := ⟨_, rfl⟩
  obtain ⟨cur1, d1, d2, d3⟩ := Mm.setCells_heap (xs.drop j) (0 + i * 1) w.drew cur b1 (by rw [hdl]; omega)
  rw [← hW1] at d1
  have hgr1 : w.grownBy W1 (some g) := by
    rw [hW1]
    have h := Mm.setCells_grown g (xs.drop j) (0 + i * 1) w.drew
    exact ⟨h.os, h.tape, h.output, h.size, h.block⟩
  have hcl : ∀ ty cc, (Builtin.clear_ #[97] ty #[.slice (some ⟨g, i + (n - j), none⟩) (n - (i + (n - j))) cc]).run Tryz.prog W1 = .ok (.tuple #[]) (W1.setCells g (i + (n - j)) (List.replicate (n - (i + (n - j))) (.pointer none))) := fun ty cc =>
    Lib.run_clear_slice W1 _ 94 ty _ Tryz.underlying97 Tryz.zeroValue94 rfl rfl g (i + (n - j)) _ _ (by omega) (fun t ht => by rw [Mm.cellOf d1 (Array.getElem?_eq_getElem (by omega))]; rfl) (fun t ht => by simp [World.frozen?, d1])
  obtain ⟨cur2, f1, f2, f3⟩ := Mm.setCells_heap (List.replicate (n - (i + (n - j))) (.pointer none)) (i + (n - j)) W1 cur1 d1 (by rw [List.length_replicate]; omega)
  have HF : Hid (Mm.Own (W1.setCells g (i + (n - j)) (List.replicate (n - (i + (n - j))) (.pointer none))) base 94 (.slice (some ⟨g, 0, none⟩) (i + (n - j)) c) (xs.take i ++ xs.drop j) ∧ w.grownBy (W1.setCells g (i + (n - j)) (List.replicate (n - (i + (n - j))) (.pointer none))) (some g)) := by
    have hl : (xs.take i ++ xs.drop j).length = i + (n - j) := by simp; omega
    refine ⟨Mm.Own.mk f1 b6 (by omega) b5 hl (by omega) ?_, Mm.grTr hgr1 (Mm.setCells_grown g _ _ W1)⟩
    have e1 : cur1.toList.take (i + (n - j)) = xs.take i ++ xs.drop j := by
      rw [d3, show 0 + i * 1 = i by omega]
      have e2 : cur.toList.take i = xs.take i := by rw [← b3, List.take_take, Nat.min_eq_left (by omega)]
      rw [e2]
      exact List.take_left' hl
    rw [f3, e1, List.append_assoc]
    exact List.take_left' hl
  have HW : Hid (W1 = w.drew.setCells g (0 + i * 1) (xs.drop j)) := hW1
  have hic : i ≤ c := by omega
  have hjc : j ≤ c := by omega
  have hne : ¬ ((i : Int) = (j : Int)) := by omega
  have hnc : n ≤ c := b4
  have hml : i + (n - j) ≤ n := by omega
  have hmc : ¬ (c = i + (n - j)) := by omega
  have mixed : Tryz.prog.follows .mixedOrders = true := by kernel_rfl
  clear b1 b2 b3 b4 b5 b6 b7 hxi hsp hfz hdl d1 d2 d3 hgr1 f1 f2 f3 hW1
  go_enter Tryz.func80, Tryz.ntmps80
  go_wp2_with fail
  go_region_law_o (refine step_append_room rfl (.tmp 22) (.tmp 25) 97 rfl 94 i0 1 Tryz.underlying97 hi0 hzs g 0 i c (by simp [Act.eval, Act.put]) A (n - j) (c - j) (xs.drop j) (by simp [Act.eval, Act.put, ← hA]; try (split <;> rfl)) s1.out hsrc.out s2.out (by omega) s3.out ?_; rw [← HW.out])
  go_wp2
  all_goals
    go_ret
    first
    | exact ⟨rfl, HF.out.1, HF.out.2⟩
    | (have e : c = j := by assumption
       have HF2 := HF.out
       rw [e] at HF2
       exact ⟨rfl, HF2.1, HF2.2⟩)

end Go.Proofs.YtjnaafgiokdcbaaGreatDoor

/- Leaves in memory. -/
namespace Go.Proofs.YtjnaafgiokdcbaaGreatDoor
open Go.RowKit

namespace Lf
/-- What a block of the leaves' is for. -/
inductive Tg | hd | row | pg (n : Nat) | ks (n : Nat)
def strs (l : List ByteArray) : List Value := l.map Value.string
def ptrs (bl : Nat → Nat) (l : List Pg) : List Value := l.map (fun P => .pointer (some ⟨bl P.n, 0, none⟩))
@[simp] theorem strs_len (l : List ByteArray) : (strs l).length = l.length := by simp [strs]
@[simp] theorem ptrs_len (bl : Nat → Nat) (l : List Pg) : (ptrs bl l).length = l.length := by simp [ptrs]
theorem strs_at {l : List ByteArray} {i : Nat} {k : ByteArray} (h : l[i]? = some k) : (strs l)[i]? = some (.string k) := by simp [strs, h]
theorem ptrs_at {bl : Nat → Nat} {l : List Pg} {i : Nat} {P : Pg} (h : l[i]? = some P) : (ptrs bl l)[i]? = some (.pointer (some ⟨bl P.n, 0, none⟩)) := by simp [ptrs, h]
theorem strs_one (l : List ByteArray) : ∀ v ∈ strs l, v.oneCell' = true := fun v hv => by obtain ⟨_, _, rfl⟩ := List.mem_map.1 hv; rfl
theorem ptrs_one (bl : Nat → Nat) (l : List Pg) : ∀ v ∈ ptrs bl l, v.oneCell' = true := fun v hv => by obtain ⟨_, _, rfl⟩ := List.mem_map.1 hv; rfl

structure PgIn (h : Nat) (w : World) (tag : Nat → Option Tg) (b : Nat) (v : Value) (P : Pg) : Prop where
  cell : w.heap[b]? = some (.cells #[.int .i64 (P.n : Int), .string P.b, v] 96 (0, 0))
  tb : tag b = some (.pg P.n)
  own : Mm.Own w h 9 v (strs P.ks)
  tk : ∀ g, v.ownBlock = some g → tag g = some (.ks P.n)

structure Mem (h : Nat) (w : World) (tag : Nat → Option Tg) (p : Nat) (s : S) (bl : Nat → Nat) (kv : Nat → Value) (rv : Value) : Prop where
  cell : w.heap[p]? = some (.cells #[.int .i64 (s.fan : Int), rv, .int .i64 (s.last : Int), .int .i64 (s.count : Int)] 99 (0, 0))
  tp : tag p = some .hd
  top : ∀ b, w.heap.size ≤ b → tag b = none
  bot : ∀ b, b < h → tag b = none
  row : Mm.Own w h 94 rv (ptrs bl s.pgs)
  tr : ∀ g, rv.ownBlock = some g → tag g = some .row
  pg : ∀ P ∈ s.pgs, PgIn h w tag (bl P.n) (kv P.n) P

/-- From world to world: nothing that is not the leaves' has turned. -/
structure Ev (tag tag' : Nat → Option Tg) (w w' : World) : Prop where
  os : w'.os = w.os
  tape : w'.tape = w.tape
  output : w'.output = w.output
  size : w.heap.size ≤ w'.heap.size
  block : ∀ b, b < w.heap.size → tag b = none → w'.heap[b]? = w.heap[b]?
  tags : ∀ b, b < w.heap.size → tag b = none → tag' b = none
theorem Ev.refl (tag : Nat → Option Tg) (w : World) : Ev tag tag w w := ⟨rfl, rfl, rfl, Nat.le_refl _, fun _ _ _ => rfl, fun _ _ h => h⟩
theorem Ev.trans {t1 t2 t3 : Nat → Option Tg} {a b c : World} (h : Ev t1 t2 a b) (k : Ev t2 t3 b c) : Ev t1 t3 a c :=
  ⟨k.os.trans h.os, k.tape.trans h.tape, k.output.trans h.output, Nat.le_trans h.size k.size, fun i hi ht => (k.block i (Nat.lt_of_lt_of_le hi h.size) (h.tags i hi ht)).trans (h.block i hi ht), fun i hi ht => k.tags i (Nat.lt_of_lt_of_le hi h.size) (h.tags i hi ht)⟩
theorem Ev.below {t : Nat → Option Tg} {a b : World} (h : Below a.heap.size a b) : Ev t t a b := ⟨h.os, h.tape, h.output, h.size, fun i hi _ => h.block i hi, fun _ _ h => h⟩
/-- All that lies below the leaves' first block stays. -/
theorem Ev.bel {t t' : Nat → Option Tg} {a b : World} (k : Ev t t' a b) {h : Nat} (hh : h ≤ a.heap.size) (hb : ∀ i, i < h → t i = none) : Below h a b := ⟨k.os, k.tape, k.output, k.size, fun i hi => k.block i (Nat.lt_of_lt_of_le hi hh) (hb i hi)⟩

variable {h : Nat} {w : World} {tag : Nat → Option Tg} {p : Nat} {s : S} {bl : Nat → Nat} {kv : Nat → Value} {rv : Value}
theorem Mem.lt (H : Mem h w tag p s bl kv rv) : p < w.heap.size := Mm.heapLt H.cell
theorem Mem.lts (H : Mem h w tag p s bl kv rv) {b : Nat} {l : Tg} (hb : tag b = some l) : b < w.heap.size := by
  rcases Nat.lt_or_ge b w.heap.size with c | c
  · exact c
  · rw [H.top b c] at hb; cases hb
theorem Mem.ge (H : Mem h w tag p s bl kv rv) {b : Nat} {l : Tg} (hb : tag b = some l) : h ≤ b := by
  rcases Nat.lt_or_ge b h with c | c
  · rw [H.bot b c] at hb; cases hb
  · exact c
theorem apart {tag : Nat → Option Tg} {a b : Nat} {l l' : Tg} (h : tag a = some l) (h' : tag b = some l') (hne : l ≠ l') : a ≠ b := fun e => hne (by rw [e, h'] at h; injection h.symm)
theorem PgIn.keep {b : Nat} {v : Value} {P : Pg} (H : PgIn h w tag b v P) {w' : World} {tag' : Nat → Option Tg} (k1 : w'.heap[b]? = w.heap[b]?) (k2 : ∀ g, v.ownBlock = some g → w'.heap[g]? = w.heap[g]?) (t1 : tag' b = some (.pg P.n)) (t2 : ∀ g, v.ownBlock = some g → tag' g = some (.ks P.n)) : PgIn h w' tag' b v P :=
  ⟨k1.trans H.cell, t1, H.own.keep k2, t2⟩
theorem Mem.keep (H : Mem h w tag p s bl kv rv) {w' : World} (hz : w.heap.size ≤ w'.heap.size) (hk : ∀ b l, tag b = some l → w'.heap[b]? = w.heap[b]?) : Mem h w' tag p s bl kv rv :=
  ⟨(hk p _ H.tp).trans H.cell, H.tp, fun b hb => H.top b (Nat.le_trans hz hb), H.bot, H.row.keep (fun g hg => hk g _ (H.tr g hg)), H.tr, fun P hP => (H.pg P hP).keep (hk _ _ (H.pg P hP).tb) (fun g hg => hk g _ ((H.pg P hP).tk g hg)) (H.pg P hP).tb (H.pg P hP).tk⟩
theorem Mem.below (H : Mem h w tag p s bl kv rv) {w' : World} (hb : Below w.heap.size w w') : Mem h w' tag p s bl kv rv := H.keep hb.size (fun b _ ht => hb.block b (H.lts ht))
theorem Mem.drew (H : Mem h w tag p s bl kv rv) : Mem h w.drew tag p s bl kv rv := H.keep (Nat.le_refl _) (fun _ _ _ => rfl)
theorem Mem.c0 (H : Mem h w tag p s bl kv rv) : w.cell? ⟨p, 0, none⟩ = some (.int .i64 (s.fan : Int)) := Mm.cellOf H.cell rfl
theorem Mem.c1 (H : Mem h w tag p s bl kv rv) : w.cell? ⟨p, 1, none⟩ = some rv := Mm.cellOf H.cell rfl
theorem Mem.c2 (H : Mem h w tag p s bl kv rv) : w.cell? ⟨p, 2, none⟩ = some (.int .i64 (s.last : Int)) := Mm.cellOf H.cell rfl
theorem Mem.c3 (H : Mem h w tag p s bl kv rv) : w.cell? ⟨p, 3, none⟩ = some (.int .i64 (s.count : Int)) := Mm.cellOf H.cell rfl
theorem Mem.fr (H : Mem h w tag p s bl kv rv) (i : Nat) : w.frozen? ⟨p, i, none⟩ = false := by simp [World.frozen?, H.cell]
/-- A leaf's cells, and where the row of leaves lies. -/
theorem Mem.at (H : Mem h w tag p s bl kv rv) {i : Nat} {P : Pg} (hP : s.pgs[i]? = some P) : ∃ g c, rv = .slice (some ⟨g, 0, none⟩) s.pgs.length c ∧ s.pgs.length ≤ c ∧ i < s.pgs.length ∧ w.cell? ⟨g, i, none⟩ = some (.pointer (some ⟨bl P.n, 0, none⟩)) ∧ w.cell? ⟨bl P.n, 0, none⟩ = some (.int .i64 (P.n : Int)) ∧ w.cell? ⟨bl P.n, 1, none⟩ = some (.string P.b) ∧ w.cell? ⟨bl P.n, 2, none⟩ = some (kv P.n) := by
  obtain ⟨g, c, h1, h2, h3, _, h5⟩ := H.row.at (ptrs_at hP)
  have hp := (H.pg P (List.mem_of_getElem? hP)).cell
  rw [ptrs_len] at h1 h2 h5
  exact ⟨g, c, h1, h2, h5, h3, Mm.cellOf hp rfl, Mm.cellOf hp rfl, Mm.cellOf hp rfl⟩
/-- A leaf's keys in memory. -/
theorem Mem.ks (H : Mem h w tag p s bl kv rv) {P : Pg} (hP : P ∈ s.pgs) : ∃ q c, kv P.n = .slice q P.ks.length c ∧ P.ks.length ≤ c ∧ c ≤ maxLen ∧ (q = none → P.ks = [] ∧ c = 0) ∧ (q = none ∨ ∃ g, q = some ⟨g, 0, none⟩) ∧ ∀ (j : Nat) k, P.ks[j]? = some k → ∃ g, q = some ⟨g, 0, none⟩ ∧ w.cell? ⟨g, j, none⟩ = some (.string k) := by
  have ho := (H.pg P hP).own
  rcases ho.2 with ⟨e1, e2⟩ | ⟨g, cap, cur, e1, e2, e3, e4, e5, e6⟩
  · have e : P.ks = [] := List.length_eq_zero_iff.1 (by simpa using e2)
    exact ⟨none, 0, by rw [e1, e]; rfl, by rw [e]; exact Nat.le_refl _, Nat.zero_le _, fun _ => ⟨e, rfl⟩, Or.inl rfl, fun j k hk => by rw [e] at hk; cases hk⟩
  · refine ⟨some ⟨g, 0, none⟩, cap, by rw [e1, strs_len], by simpa using e4, e5, (fun h => nomatch h), Or.inr ⟨g, rfl⟩, fun j k hk => ⟨g, rfl, ?_⟩⟩
    have ho2 := ho
    rw [e1] at ho2
    exact (ho2.cell (strs_at hk)).1

/-- A store into the leaves' own cells. -/
theorem Mem.setHd (H : Mem h w tag p s bl kv rv) (i : Nat) (v : Value) {s' : S} (hc : (w.setCell ⟨p, i, none⟩ v).heap[p]? = some (.cells #[.int .i64 (s'.fan : Int), rv, .int .i64 (s'.last : Int), .int .i64 (s'.count : Int)] 99 (0, 0))) (hp : s'.pgs = s.pgs) : Mem h (w.setCell ⟨p, i, none⟩ v) tag p s' bl kv rv ∧ Ev tag tag w (w.setCell ⟨p, i, none⟩ v) := by
  have k : ∀ b l, tag b = some l → l ≠ .hd → (w.setCell ⟨p, i, none⟩ v).heap[b]? = w.heap[b]? := fun b l e hl => heap_setCell_other w _ b _ (apart e H.tp hl)
  refine ⟨⟨hc, H.tp, fun b hb => H.top b (by simpa using hb), H.bot, ?_, H.tr, ?_⟩, rfl, rfl, rfl, by simp, fun b _ ht => heap_setCell_other w _ b _ (fun e => ?_), fun _ _ h => h⟩
  · rw [hp]; exact H.row.keep (fun g hg => k g _ (H.tr g hg) (by simp))
  · rw [hp]; exact fun P hP => (H.pg P hP).keep (k _ _ (H.pg P hP).tb (by simp)) (fun g hg => k g _ ((H.pg P hP).tk g hg) (by simp)) (H.pg P hP).tb (H.pg P hP).tk
  · have e' : b = p := e
    rw [e', H.tp] at ht; cases ht
theorem Mem.setCount (H : Mem h w tag p s bl kv rv) (c : Nat) : Mem h (w.setCell ⟨p, 3, none⟩ (.int .i64 (c : Int))) tag p { s with count := c } bl kv rv ∧ Ev tag tag w (w.setCell ⟨p, 3, none⟩ (.int .i64 (c : Int))) :=
  H.setHd 3 _ (heap_setCell_same w p 3 _ _ _ H.cell) rfl
theorem Mem.setLast (H : Mem h w tag p s bl kv rv) (c : Nat) : Mem h (w.setCell ⟨p, 2, none⟩ (.int .i64 (c : Int))) tag p { s with last := c } bl kv rv ∧ Ev tag tag w (w.setCell ⟨p, 2, none⟩ (.int .i64 (c : Int))) :=
  H.setHd 2 _ (heap_setCell_same w p 2 _ _ _ H.cell) rfl

def tagW (tag : Nat → Option Tg) (o : Option Nat) (l : Tg) : Nat → Option Tg := fun b => if o = some b then some l else tag b
def upd {α : Type} (f : Nat → α) (n : Nat) (v : α) : Nat → α := fun m => if m = n then v else f m
theorem upd_same {α : Type} (f : Nat → α) (n : Nat) (v : α) : upd f n v n = v := if_pos rfl
theorem upd_other {α : Type} (f : Nat → α) {n m : Nat} (v : α) (h : m ≠ n) : upd f n v m = f m := if_neg h
theorem nd_mid {L R : List Pg} {P : Pg} (h : (L ++ P :: R).Pairwise (fun P Q => P.n ≠ Q.n)) : (∀ Q ∈ L, Q.n ≠ P.n) ∧ (∀ Q ∈ R, Q.n ≠ P.n) := by
  obtain ⟨_, h2, h3⟩ := List.pairwise_append.1 h
  exact ⟨fun Q hQ => h3 Q hQ P (by simp), fun Q hQ e => (List.pairwise_cons.1 h2).1 Q hQ e.symm⟩
/-- A leaf's keys anew: a row that lies where it lay, or in new memory. -/
theorem Mem.putKeys (H : Mem h w tag p s bl kv rv) {L R : List Pg} {P : Pg} (he : s.pgs = L ++ P :: R) (hn : s.pgs.Pairwise (fun P Q => P.n ≠ Q.n)) {w1 : World} {v : Value} {ks : List ByteArray} (hg : w.grownBy w1 (kv P.n).ownBlock) (hv : Mm.Own w1 h 9 v (strs ks)) (ho : v.ownBlock = (kv P.n).ownBlock ∨ ∀ g, v.ownBlock = some g → w.heap.size ≤ g) :
    Mem h (w1.setCell ⟨bl P.n, 2, none⟩ v) (tagW tag v.ownBlock (.ks P.n)) p { s with pgs := L ++ withKs P ks :: R } bl (upd kv P.n v) rv ∧ Ev tag (tagW tag v.ownBlock (.ks P.n)) w (w1.setCell ⟨bl P.n, 2, none⟩ v) := by
  have hP : P ∈ s.pgs := by rw [he]; simp
  have hpg := H.pg P hP
  rw [he] at hn
  obtain ⟨n1, n2⟩ := nd_mid hn
  have hold : ∀ b l, tag b = some l → l ≠ .ks P.n → w1.heap[b]? = w.heap[b]? := fun b l e hl => hg.block b (H.lts e) (fun e2 => hl (by have := hpg.tk b e2.symm; rw [this] at e; injection e.symm))
  have k : ∀ b l, tag b = some l → l ≠ .ks P.n → l ≠ .pg P.n → (w1.setCell ⟨bl P.n, 2, none⟩ v).heap[b]? = w.heap[b]? := fun b l e h1 h2 => (heap_setCell_other w1 _ b _ (apart e hpg.tb h2)).trans (hold b l e h1)
  have tk : ∀ b l, tag b = some l → l ≠ .ks P.n → tagW tag v.ownBlock (.ks P.n) b = some l := fun b l e hl => by
    unfold tagW
    rw [if_neg (fun e2 => ?_)]
    · exact e
    · rcases ho with ho | ho
      · have := hpg.tk b (by rw [← ho, e2]); rw [this] at e; exact hl (by injection e.symm)
      · have := ho b e2; have := H.lts e; omega
  have oth : ∀ Q ∈ s.pgs, Q.n ≠ P.n → PgIn h (w1.setCell ⟨bl P.n, 2, none⟩ v) (tagW tag v.ownBlock (.ks P.n)) (bl Q.n) (upd kv P.n v Q.n) Q := fun Q hQ hne => by
    rw [upd_other kv v hne]
    have q := H.pg Q hQ
    have x1 : Tg.pg Q.n ≠ .pg P.n := fun e => hne (by injection e)
    have x2 : Tg.ks Q.n ≠ .ks P.n := fun e => hne (by injection e)
    exact q.keep (k _ _ q.tb (by simp) x1) (fun g hg => k g _ (q.tk g hg) x2 (by simp)) (tk _ _ q.tb (by simp)) (fun g hg => tk g _ (q.tk g hg) x2)
  have eptr : ptrs bl (L ++ withKs P ks :: R) = ptrs bl s.pgs := by rw [he]; simp [ptrs, withKs]
  refine ⟨⟨(k p _ H.tp (by simp) (by simp)).trans H.cell, tk p _ H.tp (by simp), fun b hb => ?_, fun b hb => ?_, ?_, fun g hg => tk g _ (H.tr g hg) (by simp), fun Q hQ => ?_⟩, hg.os, hg.tape, hg.output, by simpa using hg.size, fun b hb ht => ?_, fun b hb ht => ?_⟩
  · have hb' : w1.heap.size ≤ b := by simpa using hb
    unfold tagW
    rw [if_neg (fun e => by have := (hv.lt e).1; omega)]
    exact H.top b (Nat.le_trans hg.size hb')
  · unfold tagW
    rw [if_neg (fun e => by have := (hv.lt e).2; omega)]
    exact H.bot b hb
  · show Mm.Own _ h _ rv (ptrs bl (L ++ withKs P ks :: R))
    rw [eptr]
    exact H.row.keep (fun g hg => k g _ (H.tr g hg) (by simp) (by simp))
  · have hQ' : Q ∈ L ++ withKs P ks :: R := hQ
    rcases List.mem_append.1 hQ' with h1 | h1
    · exact oth Q (by rw [he]; simp [h1]) (n1 Q h1)
    · rcases List.mem_cons.1 h1 with h1 | h1
      · subst h1
        have e1 : (withKs P ks).n = P.n := rfl
        rw [e1, upd_same]
        refine ⟨?_, tk _ _ hpg.tb (by simp), ?_, fun g hg => by unfold tagW; rw [if_pos hg]; rfl⟩
        · exact heap_setCell_same w1 (bl P.n) 2 _ _ _ ((hold _ _ hpg.tb (by simp)).trans hpg.cell)
        · refine hv.keep (fun g hgv => heap_setCell_other w1 _ g _ (fun e => ?_))
          have e' : g = bl P.n := e
          rcases ho with ho | ho
          · have := hpg.tk g (by rw [← ho, hgv]); rw [e', hpg.tb] at this; cases this
          · have := ho g hgv; have := H.lts hpg.tb; omega
      · exact oth Q (by rw [he]; simp [h1]) (n2 Q h1)
  · refine (heap_setCell_other w1 _ b _ (fun e => ?_)).trans (hg.block b hb (fun e => ?_))
    · have e' : b = bl P.n := e
      rw [e', hpg.tb] at ht; cases ht
    · have := hpg.tk b e.symm; rw [ht] at this; cases this
  · unfold tagW
    rw [if_neg (fun e => ?_)]
    · exact ht
    · rcases ho with ho | ho
      · have := hpg.tk b (by rw [← ho, e]); rw [ht] at this; cases this
      · have := ho b e; omega
/-- The row of leaves anew. -/
theorem Mem.putRow (H : Mem h w tag p s bl kv rv) {w1 : World} {v : Value} {pgs : List Pg} {tag1 : Nat → Option Tg} {bl1 : Nat → Nat} {kv1 : Nat → Value} (hg : w.grownBy w1 rv.ownBlock) (hv : Mm.Own w1 h 94 v (ptrs bl1 pgs)) (ho : v.ownBlock = rv.ownBlock ∨ ∀ g, v.ownBlock = some g → w.heap.size ≤ g ∧ tag1 g = none)
    (t1 : ∀ b l, tag b = some l → tag1 b = some l) (t2 : ∀ b, w1.heap.size ≤ b → tag1 b = none) (t3 : ∀ b, b < w.heap.size → tag b = none → tag1 b = none) (t4 : ∀ b, b < h → tag1 b = none) (hp : ∀ P ∈ pgs, PgIn h w1 tag1 (bl1 P.n) (kv1 P.n) P) :
    Mem h (w1.setCell ⟨p, 1, none⟩ v) (tagW tag1 v.ownBlock .row) p { s with pgs := pgs } bl1 kv1 v ∧ Ev tag (tagW tag1 v.ownBlock .row) w (w1.setCell ⟨p, 1, none⟩ v) := by
  have hhd : w1.heap[p]? = w.heap[p]? := hg.block p H.lt (fun e => by have := H.tr p e.symm; rw [H.tp] at this; cases this)
  have tk : ∀ b l, tag1 b = some l → l ≠ .row → tagW tag1 v.ownBlock .row b = some l := fun b l e hl => by
    unfold tagW
    rw [if_neg (fun e2 => ?_)]
    · exact e
    · rcases ho with ho | ho
      · have := t1 b _ (H.tr b (by rw [← ho, e2])); rw [this] at e; exact hl (by injection e.symm)
      · rw [(ho b e2).2] at e; cases e
  have hpp := t1 p _ H.tp
  have k : ∀ b l, tag1 b = some l → l ≠ .hd → (w1.setCell ⟨p, 1, none⟩ v).heap[b]? = w1.heap[b]? := fun b l e hl => heap_setCell_other w1 _ b _ (apart e hpp hl)
  refine ⟨⟨heap_setCell_same w1 p 1 _ _ _ (hhd.trans H.cell), tk p _ hpp (by simp), fun b hb => ?_, fun b hb => ?_, ?_, fun g hg => by unfold tagW; rw [if_pos hg], fun P hP => ?_⟩, hg.os, hg.tape, hg.output, by simpa using hg.size, fun b hb ht => ?_, fun b hb ht => ?_⟩
  · have hb' : w1.heap.size ≤ b := by simpa using hb
    unfold tagW
    rw [if_neg (fun e => by have := (hv.lt e).1; omega)]
    exact t2 b hb'
  · unfold tagW
    rw [if_neg (fun e => by have := (hv.lt e).2; omega)]
    exact t4 b hb
  · refine hv.keep (fun g hgv => heap_setCell_other w1 _ g _ (fun e => ?_))
    have e' : g = p := e
    rcases ho with ho | ho
    · have := H.tr g (by rw [← ho, hgv]); rw [e', H.tp] at this; cases this
    · have := (ho g hgv).1; have := H.lt; omega
  · have q := hp P hP
    exact q.keep (k _ _ q.tb (by simp)) (fun g hg => k g _ (q.tk g hg) (by simp)) (tk _ _ q.tb (by simp)) (fun g hg => tk g _ (q.tk g hg) (by simp))
  · refine (heap_setCell_other w1 _ b _ (fun e => ?_)).trans (hg.block b hb (fun e => ?_))
    · have e' : b = p := e
      rw [e', H.tp] at ht; cases ht
    · have := H.tr b e.symm; rw [ht] at this; cases this
  · unfold tagW
    rw [if_neg (fun e => ?_)]
    · exact t3 b hb ht
    · rcases ho with ho | ho
      · have := H.tr b (by rw [← ho, e]); rw [ht] at this; cases this
      · have := (ho b e).1; omega
/-- The first leaf has no bound. -/
theorem Mem.setB (H : Mem h w tag p s bl kv rv) {P : Pg} {r : List Pg} (he : s.pgs = P :: r) (hn : s.pgs.Pairwise (fun P Q => P.n ≠ Q.n)) : Mem h (w.setCell ⟨bl P.n, 1, none⟩ (.string ⟨#[]⟩)) tag p { s with pgs := open1 s.pgs } bl kv rv ∧ Ev tag tag w (w.setCell ⟨bl P.n, 1, none⟩ (.string ⟨#[]⟩)) := by
  have hpg := H.pg P (by rw [he]; simp)
  have k : ∀ b l, tag b = some l → l ≠ .pg P.n → (w.setCell ⟨bl P.n, 1, none⟩ (.string ⟨#[]⟩)).heap[b]? = w.heap[b]? := fun b l e hl => heap_setCell_other w _ b _ (apart e hpg.tb hl)
  refine ⟨⟨(k p _ H.tp (by simp)).trans H.cell, H.tp, fun b hb => H.top b (by simpa using hb), H.bot, ?_, H.tr, fun Q hQ => ?_⟩, rfl, rfl, rfl, by simp, fun b _ ht => heap_setCell_other w _ b _ (fun e => ?_), fun _ _ h => h⟩
  · have e : ptrs bl (open1 s.pgs) = ptrs bl s.pgs := by rw [he]; rfl
    show Mm.Own _ h _ rv (ptrs bl (open1 s.pgs))
    rw [e]
    exact H.row.keep (fun g hg => k g _ (H.tr g hg) (by simp))
  · have hQ' : Q ∈ open1 s.pgs := hQ
    rw [he] at hQ'
    rcases List.mem_cons.1 hQ' with h1 | h1
    · subst h1
      refine ⟨heap_setCell_same w (bl P.n) 1 _ _ _ hpg.cell, hpg.tb, hpg.own.keep (fun g hg => k g _ (hpg.tk g hg) (by simp)), hpg.tk⟩
    · have q := H.pg Q (by rw [he]; simp [h1])
      rw [he] at hn
      have hne := (List.pairwise_cons.1 hn).1 Q h1
      have x1 : Tg.pg Q.n ≠ .pg P.n := fun e => hne (by injection e with e; exact e.symm)
      exact q.keep (k _ _ q.tb x1) (fun g hg => k g _ (q.tk g hg) (by simp)) q.tb q.tk
  · have e' : b = bl P.n := e
    rw [e', hpg.tb] at ht; cases ht
end Lf

end Go.Proofs.YtjnaafgiokdcbaaGreatDoor
