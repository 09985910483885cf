/- strings.Clone; slices.Clone of values; own: a row for keeping. -/
import Derived.Test.YtoobljkjhpkghaaHa0
import Derived.Lib.BufferWrite
namespace Go.Proofs.Ytoobljkjhpkghaa
open Go.RowKit

theorem Vl.row_of {w' : World} {base g m : Nat} {e : TypeId} {l : List Value} (h : w'.ownsRow base e 1 (.slice (some ⟨g, 0, none⟩) m m) m l) :
    ∃ cur : Array Value, w'.heap[g]? = some (.cells cur e (0, 0)) ∧ cur.size = m := by
  obtain ⟨_, ⟨h0, _⟩ | ⟨g', cap, cur, h0, hg, hh, h1, h2, h3, h4⟩⟩ := h
  · cases h0
  · cases h0
    exact ⟨cur, hh, by omega⟩
theorem Vl.setRow_at {w : World} {g : Nat} {cur cs : Array Value} {t : TypeId} (h : w.heap[g]? = some (.cells cur t (0, 0))) : (w.setRow g cs).heap[g]? = some (.cells cs t (0, 0)) := by
  simp only [World.setRow, Array.getElem?_modify, h]; rfl
theorem Vl.below_setRow {B : Nat} {a w : World} (h : Below B a w) {g : Nat} (hg : B ≤ g) (cs : Array Value) : Below B a (w.setRow g cs) :=
  h.trans ⟨rfl, rfl, rfl, by simp [World.setRow], fun k hk => by
    simp only [World.setRow, Array.getElem?_modify]
    rw [if_neg (by omega)]⟩

set_option maxRecDepth 100000 in
set_option maxHeartbeats 1000000 in
theorem clone_in (s : ByteArray) (w : World) (hs : s.size ≤ 100000) :
    Calls Try.prog 77 #[.string s] w fun e w' => e = .returned (.string s) ∧ Below w.heap.size w w' := by
  by_cases h0 : s.size = 0
  · have hb : ((s.size : Int) == 0) = true := by simp [h0]
    have he : s = ⟨#[]⟩ := by cases s; rename_i d; congr; simpa [ByteArray.size] using h0
    have HE := Vl.hid he
    clear he h0
    go_enter Try.func77, Try.ntmps77
    go_wp2
    go_ret
    exact ⟨by rw [HE.out]; rfl, Below.refl _ _⟩
  · have hb : ((s.size : Int) == 0) = false := beq_eq_false_iff_ne.2 (by omega)
    have hsi : (s.size : Int) ≤ 100000 := by omega
    obtain ⟨i5, hi, hz0, hz1, hz2⟩ : ∃ i, Try.prog.info? 5 = some i ∧ i.zero = some (.int .u8 0) ∧ i.size = 1 ∧ i.bytes = 1 := ⟨_, Try.type5, rfl, rfl, rfl⟩
    go_enter Try.func77, Try.ntmps77
    go_wp2_with (first | (at_make; refine wpList_make_full _ rfl _ _ 85 rfl w.heap.size 5 i5 (.int .u8 0) 1 Try.underlying85 hi hz0 hz1 .i64 .i64 (s.size : Int) (s.size : Int) s.size rfl rfl rfl rfl (by rw [hz2]; omega) (by unfold maxLen; omega) (Nat.le_refl _) ?_; intro W1 hown hgrow))
    obtain ⟨cur, hg, hcs⟩ : ∃ cur : Array Value, W1.heap[w.heap.size]? = some (.cells cur 5 (0, 0)) ∧ cur.size = s.size := Vl.row_of hown
    have HB : Hid (Below w.heap.size w W1) := (Below.refl _ _).grown hgrow (Nat.le_refl _) (fun k h => by cases h)
    have hcp := Lib.run_copy_row_string (P := Try.prog) W1 85 9 3 5 w.heap.size 0 s.size s.size s cur 5 Try.underlying85 (by rw [hi]; simp [hz1]) hg (Nat.le_refl _) (by omega)
    rw [hcp]
    simp only [Result.andThen]
    rw [Oper.upon_value]
    have hrow : (cur.toList.take 0 ++ Lib.byteCells s.data.toList ++ cur.toList.drop (0 + s.size)).toArray = (Lib.byteCells s.data.toList).toArray := by
      rw [List.drop_of_length_le (by simp; omega)]; simp
    rw [hrow]
    have hW2 : (W1.setRow w.heap.size (Lib.byteCells s.data.toList).toArray).heap[w.heap.size]? = some (.cells (Lib.byteCells s.data.toList).toArray 5 (0, 0)) := Vl.setRow_at hg
    have HB2 : Hid (Below w.heap.size w (W1.setRow w.heap.size (Lib.byteCells s.data.toList).toArray)) := Vl.below_setRow HB.out (Nat.le_refl _) _
    generalize W1.setRow w.heap.size (Lib.byteCells s.data.toList).toArray = W2 at hW2 HB2
    have hus := Lib.run_unsafeString_row (P := Try.prog) W2 136 3 9 5 Try.underlying136 (by kernel_rfl) w.heap.size (Lib.byteCells s.data.toList).length (by simp [World.shape?, hW2]) s.data.toList (by intro e; apply h0; show s.data.size = 0; simpa using congrArg List.length e) (by rw [Lib.byteCells_length]; exact Nat.le_refl _) (by rw [(by simp : s.data.toList.length = s.size)]; omega)
      (fun j x hx => by rw [Vl.add_plain]; simp [World.cell?, hW2, Lib.byteCells, hx])
    have hsl : (s.data.toList.length : Int) = (s.size : Int) := by simp
    rw [hsl] at hus
    have HB3 : Hid (Below w.heap.size w (W2.freeze ⟨w.heap.size, 0, none⟩ s.data.toList.length)) := Lib.below_freeze HB2.out (Nat.le_refl _) _
    clear hcp hrow hown hgrow hg hW2 hi hz0 hz1 hz2
    go_wp2
    go_ret
    exact ⟨rfl, HB3.out⟩

set_option maxHeartbeats 1000000 in
theorem clone_any (s : ByteArray) (w : World) (hs : s.size ≤ 100000) :
    Calls Try.prog 66 #[.string s] w fun e w' => e = .returned (.string s) ∧ Below w.heap.size w w' := by
  go_enter Try.func66, Try.ntmps66
  go_wp2_with (go_at_call 77; refine (clone_in _ _ hs).mono ?_; rintro e w1 ⟨rfl, hb⟩)
  go_ret
  exact ⟨rfl, hb⟩

namespace Vl
theorem maxLen_le {n : Nat} (h : n ≤ 1000000) : n ≤ maxLen := by unfold maxLen; omega
/-- A row of values of one's own, or one without values that lies anywhere. -/
def Kept (w : World) (base : Nat) (v : Value) (xs : List V) : Prop := (xs = [] ∧ ∃ p, v = .slice p 0 0) ∨ w.ownsRow base 50 4 v xs.length (cellsV xs)
set_option maxRecDepth 100000 in
theorem valInfo : ∃ i, Try.prog.info? 50 = some i ∧ i.zero = some (.agg #[.int .i64 0, .int .i64 0, .float .f64 0, .string ⟨#[]⟩]) ∧ i.size = 4 ∧ i.bytes = 40 := ⟨_, Try.type50, rfl, rfl, rfl⟩
/-- What lies in a row of one's own. -/
theorem ownCell {w : World} {base n size c g : Nat} {e : TypeId} {cs : List Value} (h : w.ownsRow base e size (.slice (some ⟨g, 0, none⟩) n c) n cs) {i : Nat} {u : Value} (hu : cs[i]? = some u) : w.cell? ⟨g, i, none⟩ = some u ∧ w.frozen? ⟨g, i, none⟩ = false ∧ g < w.heap.size ∧ base ≤ g := by
  obtain ⟨h0, ⟨e1, _⟩ | ⟨g', cap, cur, e1, e2, e3, e4, e5, e6, e7⟩⟩ := h
  · cases e1
  · cases e1
    have hj : i < n * size := by rw [← h0]; exact (List.getElem?_eq_some_iff.1 hu).1
    rw [← e7, List.getElem?_take_of_lt hj] at hu
    exact ⟨by simpa [World.cell?, e3] using hu, by simp [World.frozen?, e3], heap_lt e3, e2⟩
/-- The same stored where it is. -/
theorem ownSame {w : World} {base n size c g : Nat} {e : TypeId} {cs : List Value} (h : w.ownsRow base e size (.slice (some ⟨g, 0, none⟩) n c) n cs) {i : Nat} {u : Value} (hu : cs[i]? = some u) : (w.setCell ⟨g, i, none⟩ u).ownsRow base e size (.slice (some ⟨g, 0, none⟩) n c) n cs := by
  obtain ⟨h0, ⟨e1, _⟩ | ⟨g', cap, cur, e1, e2, e3, e4, e5, e6, e7⟩⟩ := h
  · cases e1
  · cases e1
    have hj : i < n * size := by rw [← h0]; exact (List.getElem?_eq_some_iff.1 hu).1
    have hu' := hu
    rw [← e7, List.getElem?_take_of_lt hj] at hu'
    refine ⟨h0, Or.inr ⟨g, c, cur.setIfInBounds i u, rfl, e2, heap_setCell_same w g i cur e u e3, e4, e5, by simpa using e6, ?_⟩⟩
    rw [Array.toList_setIfInBounds, List.take_set, e7]
    apply List.ext_getElem?
    intro j
    rw [List.getElem?_set]
    by_cases ej : i = j
    · subst ej; rw [if_pos rfl, if_pos (by rw [h0]; exact hj)]; exact hu.symm
    · rw [if_neg ej]
theorem ownNonnil {w : World} {base n size c : Nat} {p : Option Addr} {e : TypeId} {cs : List Value} (h : w.ownsRow base e size (.slice p n c) n cs) (hn : 0 < n) : ∃ g, p = some ⟨g, 0, none⟩ := by
  obtain ⟨_, ⟨e1, e2⟩ | ⟨g', cap, cur, e1, _⟩⟩ := h
  · omega
  · cases e1; exact ⟨g', rfl⟩
end Vl

set_option maxRecDepth 100000 in
set_option maxHeartbeats 2000000 in
theorem cloneV_any (p : Option Addr) (n c : Nat) (xs : List Vl.V) (w : World) (hx : xs.length = n) (hn : n ≤ 1000000) (hnil : p = none → n = 0 ∧ c = 0) (H : Hid (Vl.RowIn w p xs)) :
    Calls Try.prog 62 #[.slice p n c] w fun e w' => ∃ v', e = .returned v' ∧ w'.ownsRow w.heap.size 50 4 v' n (Vl.cellsV xs) ∧ Below w.heap.size w w' := by
  have q : ∀ (w : World) (a : Option Addr) (n c n' c' : Nat), (binOp .eql 37 (.slice a n c) (.slice none n' c')).run Try.prog w = .ok (.bool a.isNone) w := fun w a n c n' c' => Lib.run_eql_slice_nil w _ _ a n c n' c' Try.underlying37
  cases p with
  | none =>
    obtain ⟨rfl, rfl⟩ := hnil rfl
    obtain rfl := List.length_eq_zero_iff.1 hx
    go_enter Try.func62, Try.ntmps62
    go_wp2
    go_ret
    exact ⟨_, rfl, ⟨rfl, Or.inl ⟨rfl, rfl⟩⟩, Below.refl _ _⟩
  | some a =>
    obtain ⟨i, hi, hz, hz1, hz2⟩ := Vl.valInfo
    have HR : Hid (Vl.Lies (w.alloc (.cells #[] 50)) (some a) (Vl.cellsV xs)) := Vl.hid (H.out.al _)
    have HL : Hid ((Vl.cellsV xs).length = n * 4) := Vl.hid (by rw [Vl.cellsV_length, hx])
    clear hnil hx
    go_enter Try.func62, Try.ntmps62
    go_wp2_with (at_builtin; refine Vl.append_any rfl _ _ 37 rfl w.heap.size 50 i _ 4 40 Try.underlying37 hi hz hz1 hz2 (by decide) (by decide) _ 0 [] rfl (World.ownsRow_made w #[] 0 (Nat.le_refl _) (Nat.zero_le _) rfl) (some a) n c (Vl.cellsV xs) rfl (fun h => nomatch h) HL.out HR.out (Vl.cellsV_one xs) (by unfold maxLen; omega) (by omega) (by simp) ?_; intro v1 w1 hown hgrow)
    go_ret
    refine ⟨v1, rfl, by simpa using hown, ?_⟩
    exact ((Below.refl _ w).alloc (Nat.le_refl _) _).grown hgrow (by simp) (by intro k hk; cases hk; exact Nat.le_refl _)

set_option maxRecDepth 100000 in
set_option maxHeartbeats 2000000 in
theorem own_any (p : Option Addr) (n c : Nat) (xs : List Vl.V) (w : World) (hx : xs.length = n) (hn : n ≤ 1000000) (hnil : p = none → n = 0 ∧ c = 0) (hs : Hid (∀ v ∈ xs, v.s.size ≤ 100000)) (H : Hid (Vl.RowIn w p xs)) :
    Calls Try.prog 44 #[.slice p n c] w fun e w' => ∃ v', e = .returned v' ∧ w'.ownsRow w.heap.size 50 4 v' n (Vl.cellsV xs) ∧ Below w.heap.size w w' := by
  have HX := Vl.hid hx
  go_enter Try.func44, Try.ntmps44
  go_wp2_with fail
  refine (cloneV_any p n c xs w hx hn hnil H).mono ?_
  rintro e w1 ⟨v1, rfl, hown, hb⟩
  have HB := Vl.hid hb
  have HO := Vl.hid hown
  clear hnil
  obtain ⟨p1, c1, rfl, hc1, hl1⟩ := Vl.lies_own hown
  clear hown hb hl1
  go_wp2_with fail
  go_loopw [4, 9] (fun _ vi wr => ∃ k : Nat, k ≤ n ∧ vi = .int .i64 (k : Int) ∧ Hid (wr.ownsRow w.heap.size 50 4 (.slice p1 n c1) n (Vl.cellsV xs)) ∧ Hid (Below w.heap.size w wr)) (fun _ vi _ => n - (RowKit.intOf vi).toNat)
  case atStart => exact ⟨0, by omega, rfl, HO, HB⟩
  case round =>
    clear HO HB
    obtain ⟨k, hk1, rfl, HO, HB⟩ := hrel
    rename World => wr
    by_cases hlt : k < n
    · obtain ⟨v, hv⟩ : ∃ v, xs[k]? = some v := ⟨xs[k]'(by rw [HX.out]; exact hlt), List.getElem?_eq_getElem _⟩
      obtain ⟨g, rfl⟩ := Vl.ownNonnil HO.out (by omega)
      have hc := (Vl.cellsV_at xs k v hv).2.2.2
      obtain ⟨d1, d2, d3, d4⟩ := Vl.ownCell HO.out hc
      have hsz := hs.out v (List.mem_of_getElem? hv)
      have HC := Vl.hid hc
      have g1 : (0 : Int) ≤ (k : Int) := by omega
      have g2 : (k : Int) < (n : Int) := by omega
      clear hc hv
      go_wp2_with fail
      refine (clone_any v.s wr hsz).mono ?_
      rintro e w2 ⟨rfl, hb⟩
      have HO2 := Vl.hid (Vl.own_below HO.out hb)
      have HB2 := Vl.hid (HB.out.trans (hb.mono HB.out.size))
      have d5 : w2.cell? ⟨g, k * 4 + 3, none⟩ = some (.string v.s) := (hb.cell (p := ⟨g, k * 4 + 3, none⟩) d3).trans d1
      have d6 : w2.frozen? ⟨g, k * 4 + 3, none⟩ = false := (hb.frozen (p := ⟨g, k * 4 + 3, none⟩) d3).trans d2
      clear hb
      go_wp2_with fail
      exact ⟨⟨k + 1, by omega, by go_num, Vl.ownSame HO2.out HC.out, (HB2.out.setCell d4 _)⟩, by simp [RowKit.intOf]; omega⟩
    · obtain rfl : k = n := by omega
      go_wp2_with fail
      go_ret
      exact ⟨_, rfl, HO.out, HB.out⟩

end Go.Proofs.Ytoobljkjhpkghaa
