/- The walk of the law FloatTexts. -/
import Derived.Test.YtamefmblpncmeaaDoorW8
import Derived.Test.YtamefmblpncmeaaDoorLaid
namespace Go.Proofs.YtamefmblpncmeaaDoor
open Go.RowKit
attribute [local go_sem] Fl.run_store_float

set_option maxHeartbeats 1000000 in
theorem floatTexts_many (x : Nat) (s : ByteArray) (w : World) (hl : 2000 < s.size) (hm : s.size ≤ maxLen) (hT : Tab w) :
    Calls Tryd.prog 8 #[.float .f64 x, .string s] w fun e w' => e = .returned (.bool true) ∧ Below w.heap.size w w' := by
  unfold maxLen at hm
  have hd : decide ((2000 : Int) < (s.size : Int)) = true := by simp; omega
  go_enter Tryd.func8, Tryd.ntmps8
  go_wp2_with (first | (go_at_call 14; refine (wakes_any _ hT).mono ?_; rintro e w' ⟨rfl, hb⟩))
  go_ret
  exact ⟨rfl, hb⟩

set_option maxHeartbeats 2000000 in
theorem floatTexts_few (x : Nat) (s : ByteArray) (w : World) (hx : x < 18446744073709551616) (hl : s.size ≤ 2000) (hT : Tab w) :
    Calls Tryd.prog 8 #[.float .f64 x, .string s] w fun e w' => e = .returned (.bool true) ∧ Below w.heap.size w w' := by
  have hd : decide ((2000 : Int) < (s.size : Int)) = false := by simp; omega
  have hp := Fl.parse_text hx
  have e1 : (Fl.parseF s == Fl.parseF s) = true := by simp
  have e2 : (Fl.parseB s == Fl.parseB s) = true := by simp
  have e3 : (Fl.parseF ⟨(Fl.textN x).toArray⟩ == Fl.canonN x) = true := by rw [hp.2]; simp
  have e4 := hp.1
  clear hp
  obtain ⟨T, hTx⟩ : ∃ T : ByteArray, T = ⟨(Fl.textN x).toArray⟩ := ⟨_, rfl⟩
  rw [← hTx] at e3 e4
  have HTx := Lib.hid hTx
  clear hTx
  go_enter Tryd.func8, Tryd.ntmps8
  go_wp2_with fail
  refine (text_any x _ hx hT).mono ?_
  rintro e w1 ⟨rfl, hb1⟩
  rw [← HTx.out]
  go_wp2_with (first | (go_at_call 29; refine (parse_any _ _).mono ?_; rintro e w' ⟨rfl, hq⟩; obtain rfl := hq.symm))
  refine (refParse_any _ _).mono ?_
  rintro e w2 ⟨rfl, hb2⟩
  go_wp2_with (first | (go_at_call 29; refine (parse_any _ _).mono ?_; rintro e w' ⟨rfl, hq⟩; obtain rfl := hq.symm))
  refine (refText_any x _ hx).mono ?_
  rintro e w3 ⟨rfl, hb3⟩
  rw [← HTx.out]
  have c0 : w3.cell? ⟨w2.heap.size, 0, none⟩ = some (.float .f64 (Fl.parseF s)) := by
    rw [hb3.cell (p := ⟨w2.heap.size, 0, none⟩) (by simp)]; simp
  have c1 : w3.cell? ⟨w2.heap.size, 1, none⟩ = some (.bool (Fl.parseB s)) := by
    rw [hb3.cell (p := ⟨w2.heap.size, 1, none⟩) (by simp)]; simp
  have HB3 := Lib.hid (bel_trans (bel_alloc (bel_trans hb1 hb2) _) hb3)
  clear hb1 hb2 hb3
  go_wp2_with (first | (go_at_call 9; refine (same_any _ _ _).mono ?_; rintro e w' ⟨rfl, hq⟩; obtain rfl := hq.symm) | (go_at_call 10; refine (canon_any _ _).mono ?_; rintro e w' ⟨rfl, hq⟩; obtain rfl := hq.symm) | (go_at_call 14; refine (wakes_any _ (hT.below HB3.out)).mono ?_; rintro e w' ⟨rfl, hb9⟩))
  go_ret
  exact ⟨rfl, bel_trans HB3.out hb9⟩

theorem floatTexts_walk (x : Nat) (s : ByteArray) (w : World) (hx : x < 18446744073709551616) (hs : s.size ≤ maxLen) (hT : Tab w) :
    Calls Tryd.prog 8 #[.float .f64 x, .string s] w fun e w' => e = .returned (.bool true) ∧ Below w.heap.size w w' := by
  by_cases h : 2000 < s.size
  · exact floatTexts_many x s w h hs hT
  · exact floatTexts_few x s w hx (by omega) hT

end Go.Proofs.YtamefmblpncmeaaDoor
