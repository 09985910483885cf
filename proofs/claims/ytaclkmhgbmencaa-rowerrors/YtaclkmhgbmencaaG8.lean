/- Pad. -/
import Derived.Test.YtaclkmhgbmencaaG7
namespace Go.Proofs.Ytaclkmhgbmencaa
open Go.RowKit
attribute [local go_sem] Fl.run_store_float

set_option maxRecDepth 100000 in
set_option maxHeartbeats 2000000 in
theorem pad_any (p : Option Addr) (n c : Nat) (cs : List Vl.Col) (q : Option Addr) (m d : Nat) (xs : List Vl.V) (w : World) (hx : cs.length = n) (hn : n ≤ c) (hn1 : n ≤ 100000) (H : Hid (Vl.ColIn w p cs)) (hy : xs.length = m) (HR : Hid (Vl.RowIn w q xs)) :
    Calls Try.prog 21 #[.slice p n c, .slice q m d] w fun e w' => ∃ p' c', e = .returned (.slice p' n c') ∧ n ≤ c' ∧ (p' = none → n = 0 ∧ c' = 0) ∧ Vl.RowIn w' p' (Vl.padL cs xs) ∧ Below w.heap.size w w' := by
  obtain ⟨i24, hi, hz0, hz1, hz2⟩ : ∃ i, Try.prog.info? 25 = some i ∧ i.zero = some (.agg #[.int .i64 0, .int .i64 0, .float .f64 0, .string ⟨#[]⟩]) ∧ i.size = 4 ∧ i.bytes = 40 := ⟨_, Try.type25, rfl, rfl, rfl⟩
  have HX := Vl.hid hx
  have HY := Vl.hid hy
  clear hx hy
  go_enter Try.func21, Try.ntmps21
  go_wp2_with (first | (at_make; refine wpList_make_full _ rfl _ _ 38 rfl w.heap.size 25 i24 (.agg #[.int .i64 0, .int .i64 0, .float .f64 0, .string ⟨#[]⟩]) 4 Try.underlying38 hi hz0 hz1 .i64 .i64 (n : Int) (n : Int) n rfl rfl rfl rfl (by rw [hz2]; omega) (by unfold maxLen; omega) (Nat.le_refl _) ?_; intro W0 hown0 hgrow0))
  obtain ⟨cur0, hg0, hc0⟩ := Vl.row_of hown0
  have HB0 : Hid (Below w.heap.size w W0) := (Below.refl _ _).grown hgrow0 (Nat.le_refl _) (fun k h => by cases h)
  clear hown0 hgrow0
  rw [Vl.copy_any _ 38 38 3 25 w.heap.size n m d 4 q (Vl.cellsV xs) cur0 25 Try.underlying38 (by rw [hi]; simp [hz1]) hg0 hc0 (by rw [Vl.cellsV_length, HY.out]) (HR.out.below HB0.out) (Vl.cellsV_one xs)]
  simp only [Result.andThen]
  rw [Oper.upon_value]
  obtain ⟨k0, hk0⟩ : ∃ k, Nat.min m n = k := ⟨_, rfl⟩
  rw [hk0, Vl.cellsV_take]
  have hk1 : k0 ≤ m := by rw [← hk0]; exact Nat.min_le_left _ _
  have hk2 : k0 ≤ n := by rw [← hk0]; exact Nat.min_le_right _ _
  have hk3 : m ≤ k0 ∨ k0 = n := by
    have := Nat.min_def (n := m) (m := n)
    rw [show min m n = k0 from hk0] at this
    split at this <;> omega
  have hlen : (Vl.cellsV (xs.take k0)).length = k0 * 4 := by rw [Vl.cellsV_length, List.length_take]; have := HY.out; omega
  have HF : Hid (Vl.Fil (W0.setRow w.heap.size (Vl.cellsV (xs.take k0) ++ cur0.toList.drop (k0 * 4)).toArray) w.heap.size n ((Vl.padL cs xs).take k0)) := Vl.hid (by
    rw [Vl.padL_take k0 cs xs (by rw [HX.out]; exact hk2) (by rw [HY.out]; exact hk1)]
    refine Vl.Fil.of (Go.setRow_heap _ _ _ _ _ _ hg0) rfl ?_
    rw [List.size_toArray, List.length_append, hlen, List.length_drop, Array.length_toList, hc0]; omega)
  have HB1 : Hid (Below w.heap.size w (W0.setRow w.heap.size (Vl.cellsV (xs.take k0) ++ cur0.toList.drop (k0 * 4)).toArray)) := Vl.hid (Vl.below_setRow HB0.out (Nat.le_refl _) _)
  generalize W0.setRow w.heap.size (Vl.cellsV (xs.take k0) ++ cur0.toList.drop (k0 * 4)).toArray = W1 at HF HB1
  have HK := Vl.hid hk3
  clear hg0 hc0 hi hz0 hz1 hz2 hk0 hlen hk3
  go_wp2_with fail
  go_loopw [6] (fun vi wr => ∃ k : Nat, k ≤ n ∧ vi = .int .i64 (k : Int) ∧ Hid (m ≤ k ∨ k = n) ∧ Hid (Vl.Fil wr w.heap.size n ((Vl.padL cs xs).take k)) ∧ Hid (Below w.heap.size w wr)) (fun vi _ => n - (RowKit.intOf vi).toNat)
  case atStart => exact ⟨k0, by omega, rfl, HK, HF, HB1⟩
  case round =>
    obtain ⟨k, hk, rfl, HK2, HF2, HB2⟩ := hrel
    rename World => wr
    clear HF HB1 HK hk1 hk2
    by_cases hlt : k < n
    · obtain ⟨v, hv⟩ : ∃ v, cs[k]? = some v := ⟨cs[k]'(by rw [HX.out]; exact hlt), List.getElem?_eq_getElem _⟩
      obtain ⟨b, o, hp, hr⟩ := (H.out.below HB2.out).at hv
      obtain ⟨_, p0, p1, p2, p3, p4, p5, p6⟩ := hr
      have hs := Vl.padL_step (xs := xs) hv
      have hxk : xs[k]? = none := List.getElem?_eq_none (by have := HY.out; have := HK2.out; omega)
      rw [hxk] at hs
      have HS : Hid ((Vl.padL cs xs).take (k + 1) = (Vl.padL cs xs).take k ++ [v.d]) := Vl.hid hs
      have HL : Hid (((Vl.padL cs xs).take k).length = k) := Vl.hid (by rw [List.length_take, Vl.padL_length, HX.out]; omega)
      clear hv hs hxk
      subst hp
      obtain ⟨x0, q0⟩ := HF2.out.ex (k * 4) (by omega)
      obtain ⟨x1, q1⟩ := HF2.out.ex (k * 4 + 1) (by omega)
      obtain ⟨x2, q2⟩ := HF2.out.ex (k * 4 + 2) (by omega)
      obtain ⟨x3, q3⟩ := HF2.out.ex (k * 4 + 3) (by omega)
      have f0 := HF2.out.fz (k * 4)
      have f1 := HF2.out.fz (k * 4 + 1)
      have f2 := HF2.out.fz (k * 4 + 2)
      have f3 := HF2.out.fz (k * 4 + 3)
      go_wp2_with fail
      refine ⟨⟨k + 1, by omega, by go_num, Vl.hid (by have := HK2.out; omega), Vl.hid (by rw [HS.out]; exact HF2.out.put v.d HL.out hlt), ((((HB2.out.setCell (Nat.le_refl _) _).setCell (Nat.le_refl _) _).setCell (Nat.le_refl _) _).setCell (Nat.le_refl _) _)⟩, by simp [RowKit.intOf]; omega⟩
    · obtain rfl : k = n := by omega
      go_wp2_with fail
      go_ret
      have hf := HF2.out.rowIn
      rw [List.take_of_length_le (by rw [Vl.padL_length, HX.out]; exact Nat.le_refl _)] at hf
      exact ⟨_, _, rfl, Nat.le_refl _, (fun h => nomatch h), hf, HB2.out⟩

end Go.Proofs.Ytaclkmhgbmencaa
