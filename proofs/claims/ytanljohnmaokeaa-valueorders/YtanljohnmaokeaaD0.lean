/- Walks of strings.Clone. -/
import Derived.Test.YtanljohnmaokeaaB1
import Derived.Lib.UnsafeStr
import Derived.Lib.BufferWrite
namespace Go.Proofs.Ytanljohnmaokeaa
open Go.RowKit Go.Sort

theorem Vl.row_of {w' : World} {base g m : Nat} {e : TypeId} {l : List Value} (h : w'.ownsRow base e 1 (.slice (some ⟨g, 0, none⟩) m m) m l) :
    ∃ cur : Array Value, w'.heap[g]? = some (.cells cur e (0, 0)) ∧ cur.size = m := by
  obtain ⟨_, ⟨h0, _⟩ | ⟨g', cap, cur, h0, hg, hh, h1, h2, h3, h4⟩⟩ := h
  · cases h0
  · cases h0
    exact ⟨cur, hh, by omega⟩
theorem Vl.setRow_at {w : World} {g : Nat} {cur cs : Array Value} {t : TypeId} (h : w.heap[g]? = some (.cells cur t (0, 0))) : (w.setRow g cs).heap[g]? = some (.cells cs t (0, 0)) := by
  simp only [World.setRow, Array.getElem?_modify, h]; rfl
theorem Vl.below_setRow {B : Nat} {a w : World} (h : Below B a w) {g : Nat} (hg : B ≤ g) (cs : Array Value) : Below B a (w.setRow g cs) :=
  h.trans ⟨rfl, rfl, rfl, by simp [World.setRow], fun k hk => by
    simp only [World.setRow, Array.getElem?_modify]
    rw [if_neg (by omega)]⟩

set_option maxRecDepth 100000 in
set_option maxHeartbeats 1000000 in
theorem clone_in (s : ByteArray) (w : World) (hs : s.size ≤ 100000) :
    Calls Try.prog 107 #[.string s] w fun e w' => e = .returned (.string s) ∧ Below w.heap.size w w' := by
  by_cases h0 : s.size = 0
  · have hb : ((s.size : Int) == 0) = true := by simp [h0]
    have he : s = ⟨#[]⟩ := by cases s; rename_i d; congr; simpa [ByteArray.size] using h0
    have HE := Vl.hid he
    clear he h0
    go_enter Try.func107, Try.ntmps107
    go_wp2
    go_ret
    exact ⟨by rw [HE.out]; rfl, Below.refl _ _⟩
  · have hb : ((s.size : Int) == 0) = false := beq_eq_false_iff_ne.2 (by omega)
    have hsi : (s.size : Int) ≤ 100000 := by omega
    obtain ⟨i5, hi, hz0, hz1, hz2⟩ : ∃ i, Try.prog.info? 5 = some i ∧ i.zero = some (.int .u8 0) ∧ i.size = 1 ∧ i.bytes = 1 := ⟨_, Try.type5, rfl, rfl, rfl⟩
    go_enter Try.func107, Try.ntmps107
    go_wp2_with (first | (at_make; refine wpList_make_full _ rfl _ _ 74 rfl w.heap.size 5 i5 (.int .u8 0) 1 Try.underlying74 hi hz0 hz1 .i64 .i64 (s.size : Int) (s.size : Int) s.size rfl rfl rfl rfl (by rw [hz2]; omega) (by unfold maxLen; omega) (Nat.le_refl _) ?_; intro W1 hown hgrow))
    obtain ⟨cur, hg, hcs⟩ : ∃ cur : Array Value, W1.heap[w.heap.size]? = some (.cells cur 5 (0, 0)) ∧ cur.size = s.size := Vl.row_of hown
    have HB : Hid (Below w.heap.size w W1) := (Below.refl _ _).grown hgrow (Nat.le_refl _) (fun k h => by cases h)
    have hcp := Lib.run_copy_row_string (P := Try.prog) W1 74 9 3 5 w.heap.size 0 s.size s.size s cur 5 Try.underlying74 (by rw [hi]; simp [hz1]) hg (Nat.le_refl _) (by omega)
    rw [hcp]
    simp only [Result.andThen]
    rw [Oper.upon_value]
    have hrow : (cur.toList.take 0 ++ Lib.byteCells s.data.toList ++ cur.toList.drop (0 + s.size)).toArray = (Lib.byteCells s.data.toList).toArray := by
      rw [List.drop_of_length_le (by simp; omega)]; simp
    rw [hrow]
    have hW2 : (W1.setRow w.heap.size (Lib.byteCells s.data.toList).toArray).heap[w.heap.size]? = some (.cells (Lib.byteCells s.data.toList).toArray 5 (0, 0)) := Vl.setRow_at hg
    have HB2 : Hid (Below w.heap.size w (W1.setRow w.heap.size (Lib.byteCells s.data.toList).toArray)) := Vl.below_setRow HB.out (Nat.le_refl _) _
    generalize W1.setRow w.heap.size (Lib.byteCells s.data.toList).toArray = W2 at hW2 HB2
    have hus := Lib.run_unsafeString_row (P := Try.prog) W2 104 3 9 5 Try.underlying104 (by kernel_rfl) w.heap.size (Lib.byteCells s.data.toList).length (by simp [World.shape?, hW2]) s.data.toList (by intro e; apply h0; show s.data.size = 0; simpa using congrArg List.length e) (by rw [Lib.byteCells_length]; exact Nat.le_refl _) (by rw [(by simp : s.data.toList.length = s.size)]; omega)
      (fun j x hx => by rw [Vl.add_plain]; simp [World.cell?, hW2, Lib.byteCells, hx])
    have hsl : (s.data.toList.length : Int) = (s.size : Int) := by simp
    rw [hsl] at hus
    have HB3 : Hid (Below w.heap.size w (W2.freeze ⟨w.heap.size, 0, none⟩ s.data.toList.length)) := Lib.below_freeze HB2.out (Nat.le_refl _) _
    clear hcp hrow hown hgrow hg hW2 hi hz0 hz1 hz2
    go_wp2
    go_ret
    exact ⟨rfl, HB3.out⟩

set_option maxHeartbeats 1000000 in
theorem clone_any (s : ByteArray) (w : World) (hs : s.size ≤ 100000) :
    Calls Try.prog 92 #[.string s] w fun e w' => e = .returned (.string s) ∧ Below w.heap.size w w' := by
  go_enter Try.func92, Try.ntmps92
  go_wp2_with (go_at_call 107; refine (clone_in _ _ hs).mono ?_; rintro e w1 ⟨rfl, hb⟩)
  go_ret
  exact ⟨rfl, hb⟩

end Go.Proofs.Ytanljohnmaokeaa
