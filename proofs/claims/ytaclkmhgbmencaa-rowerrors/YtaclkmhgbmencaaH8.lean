/- wakes. -/
import Derived.Test.YtaclkmhgbmencaaH1
import Derived.Test.YtaclkmhgbmencaaG5
namespace Go.Proofs.Ytaclkmhgbmencaa
open Go.RowKit
attribute [local go_sem] Fl.run_store_float

namespace Vl
theorem lies_block {w : World} {g : Nat} {t : TypeId} {fr : Nat × Nat} {cs : List Value} (h : w.heap[g]? = some (.cells cs.toArray t fr)) : Lies w (some ⟨g, 0, none⟩) cs :=
  Or.inr ⟨g, 0, rfl, heap_lt h, fun j u hu => by simp [World.cell?, h, hu]⟩
def wkC : List Col := [⟨⟨#[97]⟩, 2, false, ⟨0, 0, 0, ⟨#[]⟩⟩⟩, ⟨⟨#[98]⟩, 2, false, ⟨2, 7, 0, ⟨#[]⟩⟩⟩]
def wkX : List V := [⟨2, 5, 0, ⟨#[]⟩⟩]
def wkY : List V := [⟨1, 0, 0, ⟨#[]⟩⟩]
def wkZ : List V := [⟨2, 5, 0, ⟨#[]⟩⟩, ⟨2, 7, 0, ⟨#[]⟩⟩]
theorem gz2 (n : Int) : goodB 2 n 0 ⟨#[]⟩ = true := by rw [goodB_2]; unfold good2; rw [ByteArray.toList_eq]; rfl
theorem gz0 : goodB 0 0 0 ⟨#[]⟩ = true := by rw [goodB_0]; unfold good0; rw [ByteArray.toList_eq]; rfl
theorem gz1 : goodB 1 0 0 ⟨#[]⟩ = true := by rw [goodB_1]; unfold good1; rw [ByteArray.toList_eq]; rfl
theorem wk_t1 : takesE ⟨⟨#[97]⟩, 2, false, ⟨0, 0, 0, ⟨#[]⟩⟩⟩ ⟨2, 5, 0, ⟨#[]⟩⟩ = 0 := takes_01 (gz2 5) rfl rfl
theorem wk_t2 : takesE ⟨⟨#[98]⟩, 2, false, ⟨2, 7, 0, ⟨#[]⟩⟩⟩ ⟨2, 7, 0, ⟨#[]⟩⟩ = 0 := takes_01 (gz2 7) rfl rfl
theorem wk_t3 : takesE ⟨⟨#[97]⟩, 2, false, ⟨0, 0, 0, ⟨#[]⟩⟩⟩ ⟨1, 0, 0, ⟨#[]⟩⟩ = 20 := takes_20 gz1 rfl rfl
theorem wk_fx : fillL wkC wkX = wkZ ∧ fillE wkC wkX = 0 := by
  have := fill_ok (cs := wkC) (xs := wkX) (by decide) (by
    show (if takesE ⟨⟨#[97]⟩, 2, false, ⟨0, 0, 0, ⟨#[]⟩⟩⟩ ⟨2, 5, 0, ⟨#[]⟩⟩ = 0 then (if takesE ⟨⟨#[98]⟩, 2, false, ⟨2, 7, 0, ⟨#[]⟩⟩⟩ ⟨2, 7, 0, ⟨#[]⟩⟩ = 0 then 0 else _) else _) = 0
    rw [if_pos wk_t1, if_pos wk_t2])
  exact this
theorem wk_fy : fillL wkC wkY = [] ∧ fillE wkC wkY = 20 := by
  refine fill_err (cs := wkC) (xs := wkY) (by decide) ?_ (by decide)
  show (if takesE ⟨⟨#[97]⟩, 2, false, ⟨0, 0, 0, ⟨#[]⟩⟩⟩ ⟨1, 0, 0, ⟨#[]⟩⟩ = 0 then _ else takesE ⟨⟨#[97]⟩, 2, false, ⟨0, 0, 0, ⟨#[]⟩⟩⟩ ⟨1, 0, 0, ⟨#[]⟩⟩) = 20
  rw [wk_t3]; rfl
theorem wk_b : findN wkC ⟨#[98]⟩ = 1 := by decide +kernel
theorem wk_c : findN wkC ⟨#[99]⟩ = -1 := by decide +kernel
theorem wk_a : findN wkC ⟨#[97]⟩ = 0 := by decide +kernel
theorem wk_n1 : nameB ⟨#[97]⟩ = true := by decide +kernel
theorem wk_n2 : nameB ⟨#[98]⟩ = true := by decide +kernel
theorem wk_g : colsB wkC = true := by
  refine colsB_all (by decide) (by decide) ?_
  intro j c hj hc
  match j, hc with
  | 0, hc =>
    have : c = ⟨⟨#[97]⟩, 2, false, ⟨0, 0, 0, ⟨#[]⟩⟩⟩ := by simpa [wkC] using hc.symm
    subst this
    exact ⟨by unfold colB; rw [wk_n1, gz0]; rfl, wk_a⟩
  | 1, hc =>
    have : c = ⟨⟨#[98]⟩, 2, false, ⟨2, 7, 0, ⟨#[]⟩⟩⟩ := by simpa [wkC] using hc.symm
    subst this
    exact ⟨by unfold colB; rw [wk_n2, gz2]; rfl, wk_b⟩
  | j + 2, hc => simp [wkC] at hc
end Vl

set_option maxRecDepth 100000 in
set_option maxHeartbeats 4000000 in
theorem wakes_any (w : World) :
    Calls Try.prog 9 #[] w fun e w' => e = .returned (.bool true) ∧ Below w.heap.size w w' := by
  go_enter Try.func9, Try.ntmps9
  go_wp2_with fail
  have HC0 : Hid (Vl.ColIn (w.alloc (.cells (Vl.cellsC Vl.wkC).toArray 27)) (some ⟨w.heap.size, 0, none⟩) Vl.wkC) := Vl.hid (Vl.lies_block (Vl.new_at _ _))
  have HC1 := Vl.hid (HC0.out.al (.cells (Vl.cellsV Vl.wkX).toArray 25))
  have HX1 : Hid (Vl.RowIn ((w.alloc (.cells (Vl.cellsC Vl.wkC).toArray 27)).alloc (.cells (Vl.cellsV Vl.wkX).toArray 25)) (some ⟨w.heap.size + 1, 0, none⟩) Vl.wkX) := Vl.hid (Vl.lies_block (by have := Vl.new_at (w.alloc (.cells (Vl.cellsC Vl.wkC).toArray 27)) (.cells (Vl.cellsV Vl.wkX).toArray 25); simpa using this))
  refine (fill_any (some ⟨w.heap.size, 0, none⟩) 2 2 Vl.wkC (some ⟨w.heap.size + 1, 0, none⟩) 1 1 Vl.wkX _ rfl (by decide) (by decide) HC1 rfl HX1).mono ?_
  rintro e w1 ⟨p', c', rfl, hle, _, hrow, hb⟩
  rw [Vl.wk_fx.1, Vl.wk_fx.2]
  rw [Vl.wk_fx.1] at hrow hle
  have hle2 : 2 ≤ c' := hle
  obtain ⟨b, o, hp, hv⟩ := hrow.at (show Vl.wkZ[1]? = some _ from rfl)
  subst hp
  have HC2 := Vl.hid (HC1.out.below hb)
  have HB1 : Hid (Below w.heap.size w w1) := Vl.hid (Vl.btr (Vl.bal (Vl.bal (Below.refl _ _) _) _) hb)
  have HV := Vl.hid hv
  clear hrow hle hb hv HC0 HC1 HX1
  rw [show Vl.wkZ.length = 2 from rfl]
  go_wp2_with fail
  refine (fill_any (some ⟨w.heap.size, 0, none⟩) 2 2 Vl.wkC (some ⟨w1.heap.size, 0, none⟩) 1 1 Vl.wkY _ rfl (by decide) (by decide) (Vl.hid (HC2.out.al (.cells (Vl.cellsV Vl.wkY).toArray 25))) rfl (Vl.hid (Vl.lies_block (Vl.new_at _ _)))).mono ?_
  rintro e w2 ⟨p2, c2, rfl, _, _, _, hb⟩
  rw [Vl.wk_fy.1, Vl.wk_fy.2, List.length_nil]
  have hb2 := Vl.btr (Vl.bal (Below.refl _ _) _) hb
  have HC3 := Vl.hid (HC2.out.below hb2)
  have HB2 := Vl.hid (Vl.btr HB1.out hb2)
  have q1 := (HV.out.below hb2).c1
  have q2 : w2.cell? ⟨b, o + 4 + 1, none⟩ = some (.int .i64 7) := q1
  have q3 : w2.cell? ⟨b, o + 5, none⟩ = some (.int .i64 7) := q1
  clear hb hb2 q1 HC2 HB1 HV
  go_wp2_with fail
  refine (goodC_any (some ⟨w.heap.size, 0, none⟩) 2 2 Vl.wkC _ rfl (by decide) (by decide) HC3).mono ?_
  rintro e w3 ⟨rfl, hb3⟩
  rw [Vl.wk_g]
  have HC4 := Vl.hid (HC3.out.below hb3)
  have HB3 := Vl.hid (Vl.btr HB2.out hb3)
  clear hb3 HC3
  go_wp2_with fail
  refine (find_any (some ⟨w.heap.size, 0, none⟩) 2 2 Vl.wkC ⟨#[98]⟩ _ rfl (by decide) (by decide) HC4).mono ?_
  rintro e w4 ⟨rfl, hb4⟩
  rw [Vl.wk_b]
  have HC5 := Vl.hid (HC4.out.below hb4)
  have HB4 := Vl.hid (Vl.btr HB3.out hb4)
  clear hb4 HC4
  go_wp2_with fail
  refine (find_any (some ⟨w.heap.size, 0, none⟩) 2 2 Vl.wkC ⟨#[99]⟩ _ rfl (by decide) (by decide) HC5).mono ?_
  rintro e w5 ⟨rfl, hb5⟩
  rw [Vl.wk_c]
  have HB5 := Vl.hid (Vl.btr HB4.out hb5)
  clear hb5
  go_wp2_with fail
  go_ret
  exact ⟨rfl, HB5.out⟩

end Go.Proofs.Ytaclkmhgbmencaa
