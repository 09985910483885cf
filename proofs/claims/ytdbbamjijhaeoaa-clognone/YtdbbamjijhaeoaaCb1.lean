/- Of nil; ClogNone. -/
import Derived.Test.YtdbbamjijhaeoaaCp0
namespace Go.Proofs.Ytdbbamjijhaeoaa
open Go.RowKit

set_option maxRecDepth 100000 in
set_option maxHeartbeats 2000000 in
theorem begin_nil (w : World) (x : Bool) :
    Calls Try.prog 16 #[.pointer none, .bool x] w fun e w' => e = .returned (.tuple #[.int .i64 0, .int .i64 1]) ∧ Below w.heap.size w w' := by
  go_enter Try.func16, Try.ntmps16
  go_wp2_with fail
  go_ret2
  exact ⟨rfl, Below.refl _ _⟩

set_option maxRecDepth 100000 in
set_option maxHeartbeats 2000000 in
theorem end_nil (w : World) (x t : Int) :
    Calls Try.prog 36 #[.pointer none, .int .i64 x, .int .i64 t] w fun e w' => e = .returned (.int .i64 1) ∧ Below w.heap.size w w' := by
  go_enter Try.func36, Try.ntmps36
  go_wp2_with fail
  go_ret
  exact ⟨rfl, Below.refl _ _⟩

set_option maxRecDepth 100000 in
set_option maxHeartbeats 2000000 in
theorem commit_nil (w : World) (x : Int) :
    Calls Try.prog 17 #[.pointer none, .int .i64 x] w fun e w' => e = .returned (.tuple #[.int .i64 0, .int .i64 1]) ∧ Below w.heap.size w w' := by
  go_enter Try.func17, Try.ntmps17
  go_wp2_with fail
  refine (end_nil w x 2).mono ?_
  rintro e w1 ⟨rfl, hb⟩
  have HB := Mm.hid hb
  clear hb
  go_wp2_with fail
  go_ret2
  exact ⟨rfl, HB.out⟩

set_option maxRecDepth 100000 in
set_option maxHeartbeats 2000000 in
theorem abort_nil (w : World) (x : Int) :
    Calls Try.prog 18 #[.pointer none, .int .i64 x] w fun e w' => e = .returned (.int .i64 1) ∧ Below w.heap.size w w' := by
  go_enter Try.func18, Try.ntmps18
  go_wp2_with fail
  refine (end_nil w x 3).mono ?_
  rintro e w1 ⟨rfl, hb⟩
  have HB := Mm.hid hb
  clear hb
  go_wp2_with fail
  go_ret
  exact ⟨rfl, HB.out⟩

set_option maxRecDepth 100000 in
set_option maxHeartbeats 2000000 in
theorem clogNone_law (w : World) (k x : Int) (r : Bool) :
    Calls Try.prog 6 #[.agg #[.int .i64 k, .int .i64 x, .bool r]] w fun e w' => e = .returned (.bool true) ∧ Below w.heap.size w w' := by
  go_enter Try.func6, Try.ntmps6
  go_wp2_with fail
  refine (begin_nil _ r).mono ?_
  rintro e w1 ⟨rfl, hb⟩
  have HB1 := Mm.hid ((Below.refl w.heap.size w).alloc (Nat.le_refl _) (.cells #[.int .i64 k, .int .i64 x, .bool r] 33) |>.trans (hb.mono (by simp)))
  have hc : w1.cell? ⟨w.heap.size, 1, none⟩ = some (.int .i64 x) := (hb.cell (p := ⟨w.heap.size, 1, none⟩) (by simp)).trans (Mm.cellOf (Mm.newAt _ _ rfl) rfl)
  clear hb
  go_wp2_with fail
  refine (commit_nil _ x).mono ?_
  rintro e w2 ⟨rfl, hb⟩
  have HB2 := Mm.hid (HB1.out.trans (hb.mono HB1.out.size))
  have hc2 : w2.cell? ⟨w.heap.size, 1, none⟩ = some (.int .i64 x) := (hb.cell (p := ⟨w.heap.size, 1, none⟩) (World.block_lt_of_cell? _ _ hc)).trans hc
  clear hb hc
  go_wp2_with fail
  refine (abort_nil w2 x).mono ?_
  rintro e w3 ⟨rfl, hb⟩
  have HB3 := Mm.hid (HB2.out.trans (hb.mono HB2.out.size))
  have hc3 : w3.cell? ⟨w.heap.size, 1, none⟩ = some (.int .i64 x) := (hb.cell (p := ⟨w.heap.size, 1, none⟩) (World.block_lt_of_cell? _ _ hc2)).trans hc2
  clear hb hc2 HB2
  go_wp2_with fail
  refine (state_any w3 (.pointer none) Cg.s0 x (Mm.hid (Or.inr ⟨rfl, rfl⟩)) (by decide)).mono ?_
  rintro e w4 ⟨rfl, hb⟩
  rw [Cg.gt_out (s := Cg.s0) (by show x < 1 ∨ (0 : Int) < x; omega)]
  have HB4 := Mm.hid (HB3.out.trans (hb.mono HB3.out.size))
  have hc4 : w4.cell? ⟨w.heap.size, 1, none⟩ = some (.int .i64 x) := (hb.cell (p := ⟨w.heap.size, 1, none⟩) (World.block_lt_of_cell? _ _ hc3)).trans hc3
  clear hb hc3 HB3
  go_wp2_with fail
  refine (csn_any w4 (.pointer none) Cg.s0 x (Mm.hid (Or.inr ⟨rfl, rfl⟩)) (by decide)).mono ?_
  rintro e w5 ⟨rfl, hb⟩
  rw [Cg.gt_out (s := Cg.s0) (by show x < 1 ∨ (0 : Int) < x; omega)]
  have HB5 := Mm.hid (HB4.out.trans (hb.mono HB4.out.size))
  have hc5 : w5.cell? ⟨w.heap.size, 1, none⟩ = some (.int .i64 x) := (hb.cell (p := ⟨w.heap.size, 1, none⟩) (World.block_lt_of_cell? _ _ hc4)).trans hc4
  clear hb hc4 HB4
  go_wp2_with fail
  refine (snapshot_any w5 (.pointer none) Cg.s0 x (Mm.hid (Or.inr ⟨rfl, rfl⟩)) (by decide)).mono ?_
  rintro e w6 ⟨rfl, hb⟩
  rw [Cg.gt_out (s := Cg.s0) (by show x < 1 ∨ (0 : Int) < x; omega)]
  have HB6 := Mm.hid (HB5.out.trans (hb.mono HB5.out.size))
  have hc6 : w6.cell? ⟨w.heap.size, 1, none⟩ = some (.int .i64 x) := (hb.cell (p := ⟨w.heap.size, 1, none⟩) (World.block_lt_of_cell? _ _ hc5)).trans hc5
  clear hb hc5 HB5
  go_wp2_with fail
  refine (reads_any w6 (.pointer none) Cg.s0 x (Mm.hid (Or.inr ⟨rfl, rfl⟩)) (by decide)).mono ?_
  rintro e w7 ⟨rfl, hb⟩
  rw [Cg.gt_out (s := Cg.s0) (by show x < 1 ∨ (0 : Int) < x; omega)]
  have HB7 := Mm.hid (HB6.out.trans (hb.mono HB6.out.size))
  have hc7 : w7.cell? ⟨w.heap.size, 1, none⟩ = some (.int .i64 x) := (hb.cell (p := ⟨w.heap.size, 1, none⟩) (World.block_lt_of_cell? _ _ hc6)).trans hc6
  clear hb hc6 HB6
  go_wp2_with fail
  refine (sees_any w7 (.pointer none) Cg.s0 x x (Mm.hid (Or.inr ⟨rfl, rfl⟩)) (by decide)).mono ?_
  rintro e w8 ⟨rfl, hb⟩
  rw [show Cg.sees Cg.s0 x x = false from by unfold Cg.sees; rw [Cg.gt_out (s := Cg.s0) (by show x < 1 ∨ (0 : Int) < x; omega)]; rfl]
  have HB8 := Mm.hid (HB7.out.trans (hb.mono HB7.out.size))
  have hc8 : w8.cell? ⟨w.heap.size, 1, none⟩ = some (.int .i64 x) := (hb.cell (p := ⟨w.heap.size, 1, none⟩) (World.block_lt_of_cell? _ _ hc7)).trans hc7
  clear hb hc7 HB7
  go_wp2_with fail
  refine (beside_any w8 (.pointer none) Cg.s0 1 2 (Mm.hid (Or.inr ⟨rfl, rfl⟩)) (by decide)).mono ?_
  rintro e w9 ⟨rfl, hb⟩
  rw [show Cg.beside Cg.s0 1 2 = false from rfl]
  have HB9 := Mm.hid (HB8.out.trans (hb.mono HB8.out.size))
  have hc9 : w9.cell? ⟨w.heap.size, 1, none⟩ = some (.int .i64 x) := (hb.cell (p := ⟨w.heap.size, 1, none⟩) (World.block_lt_of_cell? _ _ hc8)).trans hc8
  clear hb hc8 HB8
  go_wp2_with fail
  refine (running_any w9 (.pointer none) Cg.s0 (Mm.hid (Or.inr ⟨rfl, rfl⟩)) (Mm.hid Cg.inv0)).mono ?_
  rintro e w10 ⟨vr, rfl, ho, hb⟩
  obtain ⟨qr, cr, rfl, -, -, -, -⟩ := ho.shape
  rw [show (Mm.nts (Cg.running Cg.s0)).length = 0 from rfl]
  clear ho
  have HB10 := Mm.hid (HB9.out.trans (hb.mono HB9.out.size))
  have hc10 : w10.cell? ⟨w.heap.size, 1, none⟩ = some (.int .i64 x) := (hb.cell (p := ⟨w.heap.size, 1, none⟩) (World.block_lt_of_cell? _ _ hc9)).trans hc9
  clear hb hc9 HB9
  go_wp2_with fail
  refine (horizon_any w10 (.pointer none) Cg.s0 (Mm.hid (Or.inr ⟨rfl, rfl⟩)) (Mm.hid Cg.inv0)).mono ?_
  rintro e w11 ⟨rfl, hb⟩
  rw [show ((Cg.horizon Cg.s0 : Nat) : Int) = 0 from rfl]
  have HB11 := Mm.hid (HB10.out.trans (hb.mono HB10.out.size))
  have hc11 : w11.cell? ⟨w.heap.size, 1, none⟩ = some (.int .i64 x) := (hb.cell (p := ⟨w.heap.size, 1, none⟩) (World.block_lt_of_cell? _ _ hc10)).trans hc10
  clear hb hc10 HB10
  go_wp2_with fail
  refine (clock_any w11 (.pointer none) Cg.s0 (Mm.hid (Or.inr ⟨rfl, rfl⟩))).mono ?_
  rintro e w12 ⟨rfl, hb⟩
  rw [show ((Cg.s0.clk : Nat) : Int) = 0 from rfl]
  have HB12 := Mm.hid (HB11.out.trans (hb.mono HB11.out.size))
  have hc12 : w12.cell? ⟨w.heap.size, 1, none⟩ = some (.int .i64 x) := (hb.cell (p := ⟨w.heap.size, 1, none⟩) (World.block_lt_of_cell? _ _ hc11)).trans hc11
  clear hb hc11 HB11
  go_wp2_with fail
  refine (wakes_any w12).mono ?_
  rintro e w13 ⟨rfl, hb⟩
  have HB13 := Mm.hid (HB12.out.trans (hb.mono HB12.out.size))
  have hc13 : w13.cell? ⟨w.heap.size, 1, none⟩ = some (.int .i64 x) := (hb.cell (p := ⟨w.heap.size, 1, none⟩) (World.block_lt_of_cell? _ _ hc12)).trans hc12
  clear hb hc12 HB12
  go_wp2_with fail
  go_ret
  exact ⟨rfl, HB13.out⟩

theorem clogNone_all (x : Cg.Stp) (w : World) (_ : True) : Calls Try.prog 6 #[.agg #[.int .i64 x.kd, .int .i64 x.xid, .bool x.rd]] w fun e w' => e = .returned (.bool true) ∧ Below w.heap.size w w' := clogNone_law w x.kd x.xid x.rd
end Go.Proofs.Ytdbbamjijhaeoaa
