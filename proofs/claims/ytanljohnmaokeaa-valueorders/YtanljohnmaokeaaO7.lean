/- What a swap leaves; from copies to what Rows takes; from what Rows gives to what the helpers take. -/
import Derived.Test.YtanljohnmaokeaaO6
import Derived.Test.YtanljohnmaokeaaO1
namespace Go.Proofs.Ytanljohnmaokeaa
open Go.RowKit
namespace Vl
theorem getElem?_swapL {α : Type} (l : List α) (a b : Nat) (ha : a < l.length) (hb : b < l.length) (i : Nat) : (swapL l a b ha hb)[i]? = if i = b then l[a]? else if i = a then l[b]? else l[i]? := by
  unfold swapL
  rw [List.getElem?_set]
  by_cases h1 : b = i
  · subst h1; rw [if_pos rfl, if_pos rfl, if_pos (by simpa using hb), List.getElem?_eq_getElem ha]
  · rw [if_neg h1, if_neg (fun e => h1 e.symm), List.getElem?_set]
    by_cases h2 : a = i
    · subst h2; rw [if_pos rfl, if_pos rfl, if_pos ha, List.getElem?_eq_getElem hb]
    · rw [if_neg h2, if_neg (fun e => h2 e.symm)]
theorem getElem?_set2 {α : Type} (l : List α) (a b : Nat) {x y : α} (ha : l[a]? = some x) (hb : l[b]? = some y) (i : Nat) : ((l.set a y).set b x)[i]? = if i = b then some x else if i = a then some y else l[i]? := by
  have la : a < l.length := (List.getElem?_eq_some_iff.1 ha).1
  have lb : b < l.length := (List.getElem?_eq_some_iff.1 hb).1
  rw [List.getElem?_set]
  by_cases h1 : b = i
  · subst h1; rw [if_pos rfl, if_pos rfl, if_pos (by simpa using lb)]
  · rw [if_neg h1, if_neg (fun e => h1 e.symm), List.getElem?_set]
    by_cases h2 : a = i
    · subst h2; rw [if_pos rfl, if_pos rfl, if_pos la]
    · rw [if_neg h2, if_neg (fun e => h2 e.symm)]
/-- Two rows in each other's place. -/
theorem CopyAt.swap {w : World} {sl : List Value} {rs : List (List V)} {n a r : Nat} (h : CopyAt w sl rs n) (hl : rs.length = n) (ha : a < n) (hr : r < n) {x y : Value} (sa : sl[a]? = some x) (sr : sl[r]? = some y) :
    CopyAt w ((sl.set a y).set r x) (swapL rs a r (by omega) (by omega)) n := fun i xs hi hx => by
  rw [getElem?_swapL] at hx
  rw [getElem?_set2 sl a r sa sr]
  by_cases h1 : i = r
  · rw [if_pos h1] at hx ⊢
    obtain ⟨b, c, q1, q2⟩ := h a xs ha hx
    exact ⟨b, c, by rw [← sa]; exact q1, q2⟩
  · rw [if_neg h1] at hx ⊢
    by_cases h2 : i = a
    · rw [if_pos h2] at hx ⊢
      obtain ⟨b, c, q1, q2⟩ := h r xs hr hx
      exact ⟨b, c, by rw [← sr]; exact q1, q2⟩
    · rw [if_neg h2] at hx ⊢
      exact h i xs hi hx
theorem ownsRow_drew {w : World} {base size n : Nat} {e : TypeId} {v : Value} {xs : List Value} (h : w.ownsRow base e size v n xs) : w.drew.ownsRow base e size v n xs := h
theorem CopyAt.drew {w : World} {sl : List Value} {rs : List (List V)} {k : Nat} (h : CopyAt w sl rs k) : CopyAt w.drew sl rs k := h
theorem heap_setCell_ne {w : World} {g j b : Nat} {u : Value} (h : b ≠ g) : (w.setCell ⟨g, j, none⟩ u).heap[b]? = w.heap[b]? := Below.heap_setCell w ⟨g, j, none⟩ u b h
theorem row_block {w : World} {base g n cap : Nat} {sl : List Value} (h : w.ownsRow base 42 1 (.slice (some ⟨g, 0, none⟩) n cap) n sl) : ∃ cur : Array Value, w.heap[g]? = some (.cells cur 42 (0, 0)) ∧ base ≤ g ∧ n ≤ cap := by
  rcases h.2 with ⟨e, _⟩ | ⟨g', cap', cur, e, hb, hg, hn, _⟩
  · cases e
  · cases e; exact ⟨cur, hg, hb, hn⟩
/-- The swap of two slices in the copy's block. -/
theorem swap_step {w1 w : World} {g n cap : Nat} {sl : List Value} {rs : List (List V)} (ho : w.ownsRow w1.heap.size 42 1 (.slice (some ⟨g, 0, none⟩) n cap) n sl) (hc : CopyAt w sl rs n) (hl : rs.length = n) (hB : Below w1.heap.size w1 w)
    {a r : Nat} (ha : a < n) (hr : r < n) {x y : Value} (sa : sl[a]? = some x) (sr : sl[r]? = some y) :
    ∃ (sl' : List Value) (rs' : List (List V)), ((w.setCell ⟨g, a, none⟩ y).setCell ⟨g, r, none⟩ x).ownsRow w1.heap.size 42 1 (.slice (some ⟨g, 0, none⟩) n cap) n sl' ∧
      CopyAt ((w.setCell ⟨g, a, none⟩ y).setCell ⟨g, r, none⟩ x) sl' rs' n ∧ rs'.Perm rs ∧ Below w1.heap.size w1 ((w.setCell ⟨g, a, none⟩ y).setCell ⟨g, r, none⟩ x) := by
  obtain ⟨cur, hg, hbg, _⟩ := row_block ho
  refine ⟨(sl.set a y).set r x, swapL rs a r (by omega) (by omega), ((ho.stored a y).1.stored r x).1, ?_, swapL_perm _ _ _ _ _, (hB.setCell hbg _).setCell hbg _⟩
  refine (hc.swap hl ha hr sa sr).mono fun b cur' hb => ?_
  have hne : b ≠ g := fun e => by
    subst e
    rw [hg] at hb
    exact absurd hb (by simp)
  rw [heap_setCell_ne hne, heap_setCell_ne hne]
theorem RowH.at {w : World} {b : Nat} {xs : List V} (h : RowH w b xs) : b < w.heap.size ∧ RowAt w b 0 xs := by
  obtain ⟨cur, hg, htk⟩ := h
  refine ⟨heap_lt hg, fun j v hv => ?_⟩
  have hj : j < xs.length := (List.getElem?_eq_some_iff.1 hv).1
  obtain ⟨c0, c1, c2, c3⟩ := cellsV_at xs j v hv
  have hc : ∀ q, q < xs.length * 4 → w.cell? ⟨b, q, none⟩ = (cellsV xs)[q]? := fun q hq => by
    rw [← htk, List.getElem?_take_of_lt hq]
    simp [World.cell?, hg]
  rw [Nat.zero_add]
  exact ⟨(hc _ (by omega)).trans c0, (hc _ (by omega)).trans c1, (hc _ (by omega)).trans c2, (hc _ (by omega)).trans c3⟩
/-- From copies to what Rows takes. -/
theorem copy_in {w : World} {base g n cap : Nat} {sl : List Value} {rs : List (List V)} (ho : w.ownsRow base 42 1 (.slice (some ⟨g, 0, none⟩) n cap) n sl) (hc : CopyAt w sl rs n) (hl : rs.length = n) (hm : ∀ (j : Nat) (xs : List V), rs[j]? = some xs → xs.length ≤ 1000) :
    g < w.heap.size ∧ InAt w g 0 rs := by
  obtain ⟨cur, hg, _, _⟩ := row_block ho
  refine ⟨heap_lt hg, fun i xs hi => ?_⟩
  have hi' : i < n := by rw [← hl]; exact (List.getElem?_eq_some_iff.1 hi).1
  obtain ⟨b, c, h1, h2, h3⟩ := hc i xs hi' hi
  have := hm i xs hi
  refine ⟨some ⟨b, 0, none⟩, c, ?_, by omega, Or.inr ⟨b, 0, rfl, h3.at.1, h3.at.2⟩⟩
  rw [Nat.zero_add]
  exact (ho.cellAt i (by omega)).trans h1
/-- From what Rows gives to what the helpers take. -/
theorem out_in {w : World} {blk : Nat} {rs : List (List V)} (h : OutAt w blk rs) (hb : blk < w.heap.size) : RsIn w (some ⟨blk, 0, none⟩) rs :=
  Or.inr ⟨blk, 0, rfl, hb, fun i xs hi => by
    obtain ⟨b, o, c, h1, _, h3, _, h5, _, h7⟩ := h i xs hi
    exact ⟨some ⟨b, o, none⟩, c, by rw [Nat.zero_add]; exact h1, h3, (fun e => by cases e), Or.inr ⟨b, o, rfl, h5, h7⟩⟩⟩
theorem RsIn.get {w : World} {b o : Nat} {rs : List (List V)} (h : RsIn w (some ⟨b, o, none⟩) rs) (hn : 0 < rs.length) : b < w.heap.size ∧ RsAt w b o rs := by
  rcases h with h | ⟨B, O, e, hb, hr⟩
  · omega
  · cases e; exact ⟨hb, hr⟩
/-- Three cells lie where they were laid. -/
def ThreeC (b1 o1 b2 o2 o3 : Nat) (x y z : Value) (W w' : World) : Prop :=
  w'.cell? ⟨b1, o1, none⟩ = some x ∧ w'.cell? ⟨b2, o2, none⟩ = some y ∧ w'.cell? ⟨b1, o3, none⟩ = some z ∧ b1 < w'.heap.size ∧ b2 < w'.heap.size ∧ Below W.heap.size W w'
theorem threeDrew {b1 o1 b2 o2 o3 : Nat} {x y z : Value} {W w' : World} (h : ThreeC b1 o1 b2 o2 o3 x y z W w') : ThreeC b1 o1 b2 o2 o3 x y z W w'.drew := by
  obtain ⟨h0, h1, h2, h3, h4, h5⟩ := h
  exact ⟨h0, h1, h2, h3, h4, bdrewN h5 1⟩
theorem threeKeep {b1 o1 b2 o2 o3 : Nat} {x y z : Value} {W w0 w1 : World} (hb : Below w0.heap.size w0 w1) (h : ThreeC b1 o1 b2 o2 o3 x y z W w0) : ThreeC b1 o1 b2 o2 o3 x y z W w1 := by
  obtain ⟨h0, h1, h2, h3, h4, h5⟩ := h
  have hm := (bcell hb).1
  exact ⟨(hm _ _ h3).trans h0, (hm _ _ h4).trans h1, (hm _ _ h3).trans h2, Nat.lt_of_lt_of_le h3 hb.size, Nat.lt_of_lt_of_le h4 hb.size, btr h5 hb⟩
theorem threeB {b1 o1 b2 o2 o3 : Nat} {x y z : Value} {W w' : World} (h : ThreeC b1 o1 b2 o2 o3 x y z W w') : Below W.heap.size W w' := h.2.2.2.2.2
theorem perm_len {a b : List (List V)} (hp : a.Perm b) {m : Nat} (h : ∀ (j : Nat) (xs : List V), b[j]? = some xs → xs.length ≤ m) : ∀ (j : Nat) (xs : List V), a[j]? = some xs → xs.length ≤ m := fun j xs hj => by
  have hm : xs ∈ b := hp.mem_iff.1 (List.mem_of_getElem? hj)
  obtain ⟨i, hi⟩ := List.getElem?_of_mem hm
  exact h i xs hi
theorem cmpR_le {a b : List V} (h : cmpR a b ≤ 0) : cmpL cmpV a b ≤ 0 := by
  by_cases e : cmpL cmpV a b = 0
  · omega
  · have : cmpR a b = cmpL cmpV a b := lex_ne e
    omega
theorem sorted_not {rs : List (List V)} (h : SortedR rs) {i : Nat} {a b : List V} (ha : rs[i]? = some a) (hb : rs[i + 1]? = some b) : decide (cmpL cmpV b a < 0) = false := by
  obtain ⟨hi, rfl⟩ := List.getElem?_eq_some_iff.1 ha
  obtain ⟨hj, rfl⟩ := List.getElem?_eq_some_iff.1 hb
  have h1 := cmpR_le (List.pairwise_iff_getElem.1 h i (i + 1) hi hj (by omega))
  have h2 := cmpV_ok.list.flip rs[i] rs[i + 1]
  exact decide_eq_false (by omega)
end Vl
end Go.Proofs.Ytanljohnmaokeaa
