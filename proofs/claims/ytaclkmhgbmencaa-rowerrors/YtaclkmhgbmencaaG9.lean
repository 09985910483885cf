/- The reference's Pad. -/
import Derived.Test.YtaclkmhgbmencaaG7
namespace Go.Proofs.Ytaclkmhgbmencaa
open Go.RowKit
attribute [local go_sem] Fl.run_store_float

namespace Vl
theorem V4.lies {w : World} {b o : Nat} {v : V} (h : V4 w b o v) : Lies w (some ⟨b, o, none⟩) (cellsV [v]) := by
  refine Or.inr ⟨b, o, rfl, h.lt, fun j u hu => ?_⟩
  match j, hu with
  | 0, hu => simp [cellsV] at hu; subst hu; exact h.c0
  | 1, hu => simp [cellsV] at hu; subst hu; exact h.c1
  | 2, hu => simp [cellsV] at hu; subst hu; exact h.c2
  | 3, hu => simp [cellsV] at hu; subst hu; exact h.c3
  | j + 4, hu => simp [cellsV] at hu
theorem C7.lies {w : World} {b o : Nat} {c : Col} (h : C7 w b o c) : Lies w (some ⟨b, o, none⟩) (cellsC [c]) := by
  refine Or.inr ⟨b, o, rfl, h.lt, fun j u hu => ?_⟩
  match j, hu with
  | 0, hu => simp [cellsC] at hu; subst hu; exact h.c0
  | 1, hu => simp [cellsC] at hu; subst hu; exact h.c1
  | 2, hu => simp [cellsC] at hu; subst hu; exact h.c2
  | 3, hu => simp [cellsC] at hu; subst hu; exact h.c3
  | 4, hu => simp [cellsC] at hu; subst hu; exact h.c4
  | 5, hu => simp [cellsC] at hu; subst hu; exact h.c5
  | 6, hu => simp [cellsC] at hu; subst hu; exact h.c6
  | j + 7, hu => simp [cellsC] at hu
end Vl

set_option maxRecDepth 100000 in
set_option maxHeartbeats 2000000 in
theorem refPad_any (p : Option Addr) (n c : Nat) (cs : List Vl.Col) (q : Option Addr) (m d : Nat) (xs : List Vl.V) (w : World) (hx : cs.length = n) (hn : n ≤ c) (hn1 : n ≤ 100000) (H : Hid (Vl.ColIn w p cs)) (hy : xs.length = m) (HR : Hid (Vl.RowIn w q xs)) :
    Calls Try.prog 22 #[.slice p n c, .slice q m d] w fun e w' => ∃ p' c', e = .returned (.slice p' n c') ∧ n ≤ c' ∧ Vl.RowIn w' p' (Vl.padL cs xs) ∧ Below w.heap.size w w' := by
  obtain ⟨i24, hi, hz0, hz1, hz2⟩ : ∃ i, Try.prog.info? 25 = some i ∧ i.zero = some (.agg #[.int .i64 0, .int .i64 0, .float .f64 0, .string ⟨#[]⟩]) ∧ i.size = 4 ∧ i.bytes = 40 := ⟨_, Try.type25, rfl, rfl, rfl⟩
  have HI24 : Hid (Try.prog.info? 25 = some i24 ∧ i24.zero = some (.agg #[.int .i64 0, .int .i64 0, .float .f64 0, .string ⟨#[]⟩]) ∧ i24.size = 4 ∧ i24.bytes = 40) := Vl.hid ⟨hi, hz0, hz1, hz2⟩
  have HX := Vl.hid hx
  have HY := Vl.hid hy
  clear hx hy hi hz0 hz1 hz2
  go_enter Try.func22, Try.ntmps22
  go_wp2_with fail
  go_loopw [5, 6] (fun vo vi wr => ∃ (k : Nat) (pv : Option Addr) (cv : Nat), k ≤ n ∧ vi = .int .i64 (k : Int) ∧ vo = .slice pv k cv ∧ Hid (wr.ownsRow w.heap.size 25 4 (.slice pv k cv) k (Vl.cellsV ((Vl.padL cs xs).take k))) ∧ Hid (Below w.heap.size w wr)) (fun _ vi _ => n - (RowKit.intOf vi).toNat)
  case atStart => exact ⟨0, none, 0, by omega, rfl, rfl, World.ownsRow_nil _ _ _ _, Below.refl _ _⟩
  case round =>
    obtain ⟨k, pv, cv, hk, rfl, rfl, HO, HB⟩ := hrel
    rename World => wr
    by_cases hlt : k < n
    · obtain ⟨v, hv⟩ : ∃ v, cs[k]? = some v := ⟨cs[k]'(by rw [HX.out]; exact hlt), List.getElem?_eq_getElem _⟩
      have hs := Vl.padL_step (xs := xs) hv
      have hbs := HB.out.size
      by_cases hlm : k < m
      · obtain ⟨x, hxk⟩ : ∃ x, xs[k]? = some x := ⟨xs[k]'(by rw [HY.out]; exact hlm), List.getElem?_eq_getElem _⟩
        obtain ⟨b, o, hp, hr⟩ := (HR.out.below HB.out).at hxk
        rw [hxk] at hs
        have HS : Hid ((Vl.padL cs xs).take (k + 1) = (Vl.padL cs xs).take k ++ [x]) := Vl.hid hs
        obtain ⟨_, p0, p1, p2, p3⟩ := hr
        clear hv hs hxk
        subst hp
        go_wp2_with (at_builtin; refine Vl.append_any rfl _ _ 38 rfl w.heap.size 25 i24 (.agg #[.int .i64 0, .int .i64 0, .float .f64 0, .string ⟨#[]⟩]) 4 40 Try.underlying38 HI24.out.1 HI24.out.2.1 HI24.out.2.2.1 HI24.out.2.2.2 rfl (by decide) (.slice pv k cv) k (Vl.cellsV ((Vl.padL cs xs).take k)) rfl (HO.out.alloc _) (some ⟨wr.heap.size, 0, none⟩) 1 1 (Vl.cellsV [x]) rfl (fun h => nomatch h) rfl (Vl.V4.made x _ rfl).lies (Vl.cellsV_one _) (by unfold maxLen; omega) (by omega) (by simp; omega) ?_)
        intro v' w2 hown hgrow
        obtain ⟨p2', c2', rfl, _, _⟩ := Vl.lies_own hown
        rw [← Vl.cellsV_app, ← HS.out] at hown
        have HO2 := Vl.hid hown
        have HB2 : Hid (Below w.heap.size w w2) := Vl.hid ((Vl.bal HB.out _).grown hgrow (by simp; omega) (fun j hj => (HO.out.lt j hj).1))
        clear hown hgrow
        go_wp2_with fail
        exact ⟨⟨k + 1, _, _, by omega, by go_num, rfl, HO2.out, HB2.out⟩, by simp [RowKit.intOf]; omega⟩
      · have hxk : xs[k]? = none := List.getElem?_eq_none (by have := HY.out; omega)
        obtain ⟨b, o, hp, hr⟩ := (H.out.below HB.out).at hv
        rw [hxk] at hs
        have HS : Hid ((Vl.padL cs xs).take (k + 1) = (Vl.padL cs xs).take k ++ [v.d]) := Vl.hid hs
        obtain ⟨_, p0, p1, p2, p3, p4, p5, p6⟩ := hr
        clear hv hs hxk
        subst hp
        go_wp2_with (at_builtin; refine Vl.append_any rfl _ _ 38 rfl w.heap.size 25 i24 (.agg #[.int .i64 0, .int .i64 0, .float .f64 0, .string ⟨#[]⟩]) 4 40 Try.underlying38 HI24.out.1 HI24.out.2.1 HI24.out.2.2.1 HI24.out.2.2.2 rfl (by decide) (.slice pv k cv) k (Vl.cellsV ((Vl.padL cs xs).take k)) rfl (HO.out.alloc _) (some ⟨wr.heap.size, 0, none⟩) 1 1 (Vl.cellsV [v.d]) rfl (fun h => nomatch h) rfl (Vl.V4.made v.d _ rfl).lies (Vl.cellsV_one _) (by unfold maxLen; omega) (by omega) (by simp; omega) ?_)
        intro v' w2 hown hgrow
        obtain ⟨p2', c2', rfl, _, _⟩ := Vl.lies_own hown
        rw [← Vl.cellsV_app, ← HS.out] at hown
        have HO2 := Vl.hid hown
        have HB2 : Hid (Below w.heap.size w w2) := Vl.hid ((Vl.bal HB.out _).grown hgrow (by simp; omega) (fun j hj => (HO.out.lt j hj).1))
        clear hown hgrow
        go_wp2_with fail
        exact ⟨⟨k + 1, _, _, by omega, by go_num, rfl, HO2.out, HB2.out⟩, by simp [RowKit.intOf]; omega⟩
    · obtain rfl : k = n := by omega
      obtain ⟨p2', c2', e2, hc2, hl2⟩ := Vl.lies_own HO.out
      cases e2
      rw [List.take_of_length_le (by rw [Vl.padL_length, HX.out]; exact Nat.le_refl _)] at hl2
      have HL2 := Vl.hid (And.intro hc2 hl2)
      clear hc2 hl2
      go_wp2_with fail
      go_ret
      exact ⟨_, _, rfl, HL2.out.1, HL2.out.2, HB.out⟩

end Go.Proofs.Ytaclkmhgbmencaa
