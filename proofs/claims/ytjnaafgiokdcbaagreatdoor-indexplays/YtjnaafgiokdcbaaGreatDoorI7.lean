/- fair. -/
import Derived.Test.YtjnaafgiokdcbaaGreatDoorI5
import Derived.Test.YtjnaafgiokdcbaaGreatDoorIop
namespace Go.Proofs.YtjnaafgiokdcbaaGreatDoor
open Go.RowKit
attribute [local go_sem] Fl.run_store_float
attribute [local go_sem ↓] Go.wp_at_zero Go.wp_at_succ

namespace Ix
open Vl
/-- The cells of a step. -/
structure C10 (w : World) (b o : Nat) (x : Stp) : Prop where
  c0 : w.cell? ⟨b, o, none⟩ = some (.int .i64 x.kd)
  c1 : w.cell? ⟨b, o + 1, none⟩ = some (.int .i64 x.tid)
  c2 : w.cell? ⟨b, o + 2, none⟩ = some (.int .i64 x.v.k)
  c3 : w.cell? ⟨b, o + 3, none⟩ = some (.int .i64 x.v.n)
  c4 : w.cell? ⟨b, o + 4, none⟩ = some (.float .f64 x.v.f)
  c5 : w.cell? ⟨b, o + 5, none⟩ = some (.string x.v.s)
  c6 : w.cell? ⟨b, o + 6, none⟩ = some (.int .i64 x.x.k)
  c7 : w.cell? ⟨b, o + 7, none⟩ = some (.int .i64 x.x.n)
  c8 : w.cell? ⟨b, o + 8, none⟩ = some (.float .f64 x.x.f)
  c9 : w.cell? ⟨b, o + 9, none⟩ = some (.string x.x.s)
theorem Stps.get {W : World} {a : Option Addr} {l c : Nat} {zs : List Stp} (h : Stps W a l c zs) {w : World} (hb : Below W.heap.size W w) {i : Nat} {x : Stp} (hx : zs[i]? = some x) : ∃ b o, a = some ⟨b, o, none⟩ ∧ b < W.heap.size ∧ C10 w b (o + i * 10) x := by
  obtain ⟨b, o, h1, h2, d0, d1, d2, d3, d4, d5, d6, d7, d8, d9⟩ := h.at_ i x hx
  exact ⟨b, o, h1, h2, (Mm.belAt hb _ h2).trans d0, (Mm.belAt hb _ h2).trans d1, (Mm.belAt hb _ h2).trans d2, (Mm.belAt hb _ h2).trans d3, (Mm.belAt hb _ h2).trans d4, (Mm.belAt hb _ h2).trans d5, (Mm.belAt hb _ h2).trans d6, (Mm.belAt hb _ h2).trans d7, (Mm.belAt hb _ h2).trans d8, (Mm.belAt hb _ h2).trans d9⟩
def FairOk (b : Bool) (n : Nat) : Prop := b = true → n ≤ 150
theorem FairOk.no (n : Nat) : FairOk false n := fun h => by cases h
/-- .. and what fair comes to. -/
def FairR (n : Nat) (w : World) (e : Ending) (w' : World) : Prop := ∃ b, e = .returned (.bool b) ∧ FairOk b n ∧ Below w.heap.size w w'
end Ix

set_option maxRecDepth 100000 in
set_option maxHeartbeats 4000000 in
theorem fair11_any (a : Option Addr) (l c : Nat) (zs : List Ix.Stp) (W w : World) (hz : Hid (Ix.Stps W a l c zs)) (hb : Hid (Below W.heap.size W w)) (hbig : l ≤ 9223372036854775807) :
    Calls Tryz.prog 9 #[.slice a l c] w fun e w' => Ix.FairR l w e w' := by
  go_enter Tryz.func9, Tryz.ntmps9
  go_wp2_with fail
  go_loopw [3] (fun vi wr => ∃ k : Nat, k ≤ l ∧ vi = .int .i64 (k : Int) ∧ Hid (Below w.heap.size w wr)) (fun vi _ => l - (RowKit.intOf vi).toNat)
  case atStart => exact ⟨0, Nat.zero_le _, rfl, Mm.hid (Below.refl _ _)⟩
  case round =>
    obtain ⟨k, hk, rfl, HB⟩ := hrel
    have hbw : Below W.heap.size W wr := hb.out.trans (HB.out.mono hb.out.size)
    have HBW := Mm.hid hbw
    by_cases hlt : k < l
    · obtain ⟨x, hx⟩ : ∃ x, zs[k]? = some x := ⟨zs[k]'(by rw [hz.out.len]; exact hlt), List.getElem?_eq_getElem _⟩
      obtain ⟨b, o, rfl, hbl, d⟩ := hz.out.get hbw hx
      obtain ⟨d0, d1, d2, d3, d4, d5, d6, d7, d8, d9⟩ := d
      have g1 : (0 : Int) ≤ (k : Int) := by omega
      have g2 : (k : Int) < (l : Int) := by omega
      clear hx hbw d0 d1
      cases h1 : decide ((2000 : Int) < (x.v.s.size : Int)) with
      | true =>
        go_wp2_with fail
        refine (largeValue_any x.v _).mono ?_
        rintro e w1 ⟨rfl, hw1⟩
        have HB1 : Hid (Below w.heap.size w w1) := Mm.hid (by rw [hw1]; exact HB.out.alloc HB.out.size _)
        clear hw1 d2 d3 d4 d5 d6 d7 d8 d9
        go_wp2_with fail
        go_ret
        exact ⟨false, rfl, Ix.FairOk.no _, HB1.out⟩
      | false =>
        go_wp2_with fail
        refine (largeValue_any x.v _).mono ?_
        rintro e w1 ⟨rfl, hw1⟩
        have HBx : Hid (Below wr.heap.size wr w1) := Mm.hid (by rw [hw1]; exact (Below.refl _ _).alloc (Nat.le_refl _) _)
        have HB1 : Hid (Below w.heap.size w w1) := Mm.hid (HB.out.trans (HBx.out.mono HB.out.size))
        have hbl2 : b < wr.heap.size := Nat.lt_of_lt_of_le hbl HBW.out.size
        have e6 := (Mm.belAt HBx.out (o + k * 10 + 6) hbl2).trans d6
        have e7 := (Mm.belAt HBx.out (o + k * 10 + 7) hbl2).trans d7
        have e8 := (Mm.belAt HBx.out (o + k * 10 + 8) hbl2).trans d8
        have e9 := (Mm.belAt HBx.out (o + k * 10 + 9) hbl2).trans d9
        clear hw1 d2 d3 d4 d5 d6 d7 d8 d9 HBx
        cases h2 : decide ((2000 : Int) < (x.x.s.size : Int)) with
        | true =>
          go_wp2_with fail
          refine (largeValue_any x.x _).mono ?_
          rintro e w2 ⟨rfl, hw2⟩
          have HB2 : Hid (Below w.heap.size w w2) := Mm.hid (by rw [hw2]; exact HB1.out.alloc HB1.out.size _)
          clear hw2 e6 e7 e8 e9
          go_wp2_with fail
          go_ret
          exact ⟨false, rfl, Ix.FairOk.no _, HB2.out⟩
        | false =>
          go_wp2_with fail
          refine (largeValue_any x.x _).mono ?_
          rintro e w2 ⟨rfl, hw2⟩
          have HB2 : Hid (Below w.heap.size w w2) := Mm.hid (by rw [hw2]; exact HB1.out.alloc HB1.out.size _)
          clear hw2 e6 e7 e8 e9
          go_wp2_with fail
          exact ⟨⟨k + 1, by omega, by go_num, HB2⟩, by simp [RowKit.intOf]; omega⟩
    · by_cases h2 : l ≤ 150
      · have h3 : (l : Int) ≤ 150 := by omega
        go_wp2_with fail
        go_ret
        exact ⟨true, rfl, (fun _ => h2 : Ix.FairOk true l), HB.out⟩
      · have h3 : ¬ ((l : Int) ≤ 150) := by omega
        go_wp2_with fail
        go_ret
        exact ⟨false, rfl, Ix.FairOk.no _, HB.out⟩
end Go.Proofs.YtjnaafgiokdcbaaGreatDoor
