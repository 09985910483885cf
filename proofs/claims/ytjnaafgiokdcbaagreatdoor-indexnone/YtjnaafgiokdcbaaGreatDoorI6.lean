/- The law IndexNone. -/
import Derived.Test.YtjnaafgiokdcbaaGreatDoorI5
namespace Go.Proofs.YtjnaafgiokdcbaaGreatDoor
open Go.RowKit
attribute [local go_sem] Fl.run_store_float
attribute [local go_sem ↓] Go.wp_at_zero Go.wp_at_succ

set_option maxRecDepth 100000 in
set_option maxHeartbeats 4000000 in
theorem indexNone_all (v : Vl.V) (n : Int) (w : World) (hM : Ky.Mx w) (hv : Ky.In v) (_ : (Lit.int .i64 n).wf = true) : Calls Tryz.prog 5 #[.agg #[.int .i64 v.k, .int .i64 v.n, .float .f64 v.f, .string v.s], .int .i64 n] w fun e w' => e = .returned (.bool true) ∧ Below w.heap.size w w' := by
  have HM := Mm.hid (And.intro hM hv)
  have HX0 : Hid ((w.alloc (.cells #[.int .i64 v.k, .int .i64 v.n, .float .f64 v.f, .string v.s] 34)).heap[w.heap.size]? = some (.cells #[.int .i64 v.k, .int .i64 v.n, .float .f64 v.f, .string v.s] 34 (0, 0))) := Mm.hid (Mm.newAt w _ rfl)
  have HB0 : Hid (Below w.heap.size w (w.alloc (.cells #[.int .i64 v.k, .int .i64 v.n, .float .f64 v.f, .string v.s] 34))) := Mm.hid ((Below.refl _ w).alloc (Nat.le_refl _) _)
  obtain ⟨g, hg⟩ : ∃ g, g = w.heap.size := ⟨_, rfl⟩
  clear hM hv
  cases hs : decide ((2000 : Int) < (v.s.size : Int)) with
  | true =>
    go_enter Tryz.func5, Tryz.ntmps5
    go_wp2_with fail
    refine (largeValue_any v _).mono ?_
    rintro e w1 ⟨rfl, hw1⟩
    have HB1 : Hid (Below w.heap.size w w1) := Mm.hid (by rw [hw1]; exact HB0.out.alloc HB0.out.size _)
    clear hw1 HB0 HX0 hg
    go_wp2_with fail
    refine (wakesI_any _ (HM.out.1.below HB1.out)).mono ?_
    rintro e w2 ⟨rfl, hb⟩
    have HB2 := Mm.hid (Vl.btr HB1.out hb)
    clear hb
    go_wp2_with fail
    go_ret
    exact ⟨rfl, HB2.out⟩
  | false =>
    go_enter Tryz.func5, Tryz.ntmps5
    go_wp2_with fail
    refine (largeValue_any v _).mono ?_
    rintro e w1 ⟨rfl, hw1⟩
    have HB1 : Hid (Below w.heap.size w w1) := Mm.hid (by rw [hw1]; exact HB0.out.alloc HB0.out.size _)
    have HX1 : Hid (w1.heap[g]? = some (.cells #[.int .i64 v.k, .int .i64 v.n, .float .f64 v.f, .string v.s] 34 (0, 0))) := Mm.hid (by rw [hw1, hg]; exact (Mm.oldAt _ _ (by simp)).trans HX0.out)
    rw [← hg]
    clear hw1 HB0 HX0 hg
    have c0 : w1.cell? ⟨g, 0, none⟩ = some (.int .i64 v.k) := Mm.cellOf HX1.out rfl
    have c1 : w1.cell? ⟨g, 1, none⟩ = some (.int .i64 v.n) := Mm.cellOf HX1.out rfl
    have c2 : w1.cell? ⟨g, 2, none⟩ = some (.float .f64 v.f) := Mm.cellOf HX1.out rfl
    have c3 : w1.cell? ⟨g, 3, none⟩ = some (.string v.s) := Mm.cellOf HX1.out rfl
    go_wp2_with fail
    refine (add_nil v n w1).mono ?_
    rintro e w2 ⟨rfl, hb⟩
    have HB2 : Hid (Below w.heap.size w w2) := Mm.hid (Vl.btr HB1.out hb)
    have HX2 : Hid (w2.heap[g]? = some (.cells #[.int .i64 v.k, .int .i64 v.n, .float .f64 v.f, .string v.s] 34 (0, 0))) := Mm.hid ((hb.block _ (Mm.heapLt HX1.out)).trans HX1.out)
    clear hb HB1 HX1 c0 c1 c2 c3
    have c0 : w2.cell? ⟨g, 0, none⟩ = some (.int .i64 v.k) := Mm.cellOf HX2.out rfl
    have c1 : w2.cell? ⟨g, 1, none⟩ = some (.int .i64 v.n) := Mm.cellOf HX2.out rfl
    have c2 : w2.cell? ⟨g, 2, none⟩ = some (.float .f64 v.f) := Mm.cellOf HX2.out rfl
    have c3 : w2.cell? ⟨g, 3, none⟩ = some (.string v.s) := Mm.cellOf HX2.out rfl
    go_upto_region 5 with fail
    obtain ⟨w3, hw3⟩ : ∃ x, w2.alloc (.cells #[.int .i64 0, .int .i64 0] 38) = x := ⟨_, rfl⟩
    obtain ⟨gy, hgy⟩ : ∃ x, x = w2.heap.size := ⟨_, rfl⟩
    have hb : Below w2.heap.size w2 w3 := by rw [← hw3]; exact (Below.refl _ w2).alloc (Nat.le_refl _) _
    have HY3 : Hid (w3.heap[gy]? = some (.cells #[.int .i64 0, .int .i64 0] 38 (0, 0))) := Mm.hid (by rw [← hw3]; exact Mm.newAt _ _ hgy)
    have HB3 : Hid (Below w.heap.size w w3) := Mm.hid (Vl.btr HB2.out hb)
    have HX3 : Hid (w3.heap[g]? = some (.cells #[.int .i64 v.k, .int .i64 v.n, .float .f64 v.f, .string v.s] 34 (0, 0))) := Mm.hid ((hb.block _ (Mm.heapLt HX2.out)).trans HX2.out)
    clear hb
    rw [← hgy, hw3]
    clear hw3 hgy HB2 HX2 c0 c1 c2 c3
    have c0 : w3.cell? ⟨g, 0, none⟩ = some (.int .i64 v.k) := Mm.cellOf HX3.out rfl
    have c1 : w3.cell? ⟨g, 1, none⟩ = some (.int .i64 v.n) := Mm.cellOf HX3.out rfl
    have c2 : w3.cell? ⟨g, 2, none⟩ = some (.float .f64 v.f) := Mm.cellOf HX3.out rfl
    have c3 : w3.cell? ⟨g, 3, none⟩ = some (.string v.s) := Mm.cellOf HX3.out rfl
    go_wp2_with fail
    refine (drop_nil v n w3).mono ?_
    rintro e w4 ⟨rfl, hb⟩
    have HB4 : Hid (Below w.heap.size w w4) := Mm.hid (Vl.btr HB3.out hb)
    have HX4 : Hid (w4.heap[g]? = some (.cells #[.int .i64 v.k, .int .i64 v.n, .float .f64 v.f, .string v.s] 34 (0, 0))) := Mm.hid ((hb.block _ (Mm.heapLt HX3.out)).trans HX3.out)
    have HY4 : Hid (w4.heap[gy]? = some (.cells #[.int .i64 0, .int .i64 0] 38 (0, 0))) := Mm.hid ((hb.block _ (Mm.heapLt HY3.out)).trans HY3.out)
    clear hb HB3 HX3 HY3 c0 c1 c2 c3
    have c0 : w4.cell? ⟨g, 0, none⟩ = some (.int .i64 v.k) := Mm.cellOf HX4.out rfl
    have c1 : w4.cell? ⟨g, 1, none⟩ = some (.int .i64 v.n) := Mm.cellOf HX4.out rfl
    have c2 : w4.cell? ⟨g, 2, none⟩ = some (.float .f64 v.f) := Mm.cellOf HX4.out rfl
    have c3 : w4.cell? ⟨g, 3, none⟩ = some (.string v.s) := Mm.cellOf HX4.out rfl
    go_upto_region 6 with fail
    obtain ⟨w5, hw5⟩ : ∃ x, w4.alloc (.cells #[.int .i64 0, .int .i64 0] 38) = x := ⟨_, rfl⟩
    obtain ⟨gz, hgz⟩ : ∃ x, x = w4.heap.size := ⟨_, rfl⟩
    have hb : Below w4.heap.size w4 w5 := by rw [← hw5]; exact (Below.refl _ w4).alloc (Nat.le_refl _) _
    have HZ5 : Hid (w5.heap[gz]? = some (.cells #[.int .i64 0, .int .i64 0] 38 (0, 0))) := Mm.hid (by rw [← hw5]; exact Mm.newAt _ _ hgz)
    have HB5 : Hid (Below w.heap.size w w5) := Mm.hid (Vl.btr HB4.out hb)
    have HX5 : Hid (w5.heap[g]? = some (.cells #[.int .i64 v.k, .int .i64 v.n, .float .f64 v.f, .string v.s] 34 (0, 0))) := Mm.hid ((hb.block _ (Mm.heapLt HX4.out)).trans HX4.out)
    have HY5 : Hid (w5.heap[gy]? = some (.cells #[.int .i64 0, .int .i64 0] 38 (0, 0))) := Mm.hid ((hb.block _ (Mm.heapLt HY4.out)).trans HY4.out)
    clear hb
    rw [← hgz, hw5]
    clear hw5 hgz HB4 HX4 HY4 c0 c1 c2 c3
    have c0 : w5.cell? ⟨g, 0, none⟩ = some (.int .i64 v.k) := Mm.cellOf HX5.out rfl
    have c1 : w5.cell? ⟨g, 1, none⟩ = some (.int .i64 v.n) := Mm.cellOf HX5.out rfl
    have c2 : w5.cell? ⟨g, 2, none⟩ = some (.float .f64 v.f) := Mm.cellOf HX5.out rfl
    have c3 : w5.cell? ⟨g, 3, none⟩ = some (.string v.s) := Mm.cellOf HX5.out rfl
    go_wp2_with fail
    refine (ifind_nil v (HM.out.1.below HB5.out) HM.out.2).mono ?_
    rintro e w6 ⟨rfl, hb⟩
    have HB6 : Hid (Below w.heap.size w w6) := Mm.hid (Vl.btr HB5.out hb)
    have HX6 : Hid (w6.heap[g]? = some (.cells #[.int .i64 v.k, .int .i64 v.n, .float .f64 v.f, .string v.s] 34 (0, 0))) := Mm.hid ((hb.block _ (Mm.heapLt HX5.out)).trans HX5.out)
    have HY6 : Hid (w6.heap[gy]? = some (.cells #[.int .i64 0, .int .i64 0] 38 (0, 0))) := Mm.hid ((hb.block _ (Mm.heapLt HY5.out)).trans HY5.out)
    have HZ6 : Hid (w6.heap[gz]? = some (.cells #[.int .i64 0, .int .i64 0] 38 (0, 0))) := Mm.hid ((hb.block _ (Mm.heapLt HZ5.out)).trans HZ5.out)
    clear hb HB5 HX5 HY5 HZ5 c0 c1 c2 c3
    have c0 : w6.cell? ⟨g, 0, none⟩ = some (.int .i64 v.k) := Mm.cellOf HX6.out rfl
    have c1 : w6.cell? ⟨g, 1, none⟩ = some (.int .i64 v.n) := Mm.cellOf HX6.out rfl
    have c2 : w6.cell? ⟨g, 2, none⟩ = some (.float .f64 v.f) := Mm.cellOf HX6.out rfl
    have c3 : w6.cell? ⟨g, 3, none⟩ = some (.string v.s) := Mm.cellOf HX6.out rfl
    go_wp2_with fail
    refine (irange_nil v v (HM.out.1.below HB6.out) HM.out.2 HM.out.2).mono ?_
    rintro e w7 ⟨rfl, hb⟩
    have HB7 : Hid (Below w.heap.size w w7) := Mm.hid (Vl.btr HB6.out hb)
    have HX7 : Hid (w7.heap[g]? = some (.cells #[.int .i64 v.k, .int .i64 v.n, .float .f64 v.f, .string v.s] 34 (0, 0))) := Mm.hid ((hb.block _ (Mm.heapLt HX6.out)).trans HX6.out)
    have HY7 : Hid (w7.heap[gy]? = some (.cells #[.int .i64 0, .int .i64 0] 38 (0, 0))) := Mm.hid ((hb.block _ (Mm.heapLt HY6.out)).trans HY6.out)
    have HZ7 : Hid (w7.heap[gz]? = some (.cells #[.int .i64 0, .int .i64 0] 38 (0, 0))) := Mm.hid ((hb.block _ (Mm.heapLt HZ6.out)).trans HZ6.out)
    clear hb HB6 HX6 HY6 HZ6 c0 c1 c2 c3
    have d1 : w7.cell? ⟨gy, 1, none⟩ = some (.int .i64 0) := Mm.cellOf HY7.out rfl
    have d2 : w7.cell? ⟨gz, 1, none⟩ = some (.int .i64 0) := Mm.cellOf HZ7.out rfl
    have c0 : w7.cell? ⟨g, 0, none⟩ = some (.int .i64 v.k) := Mm.cellOf HX7.out rfl
    have c1 : w7.cell? ⟨g, 1, none⟩ = some (.int .i64 v.n) := Mm.cellOf HX7.out rfl
    have c2 : w7.cell? ⟨g, 2, none⟩ = some (.float .f64 v.f) := Mm.cellOf HX7.out rfl
    have c3 : w7.cell? ⟨g, 3, none⟩ = some (.string v.s) := Mm.cellOf HX7.out rfl
    go_wp2_with fail
    refine (ihas_nil v n w7).mono ?_
    rintro e w8 ⟨rfl, hb⟩
    have HB8 : Hid (Below w.heap.size w w8) := Mm.hid (Vl.btr HB7.out hb)
    have HX8 : Hid (w8.heap[g]? = some (.cells #[.int .i64 v.k, .int .i64 v.n, .float .f64 v.f, .string v.s] 34 (0, 0))) := Mm.hid ((hb.block _ (Mm.heapLt HX7.out)).trans HX7.out)
    clear hb HB7 HX7 c0 c1 c2 c3
    clear d1 d2 HY7 HZ7
    go_wp2_with fail
    refine (ilen_nil _).mono ?_
    rintro e w9 ⟨rfl, hq⟩
    obtain rfl := hq.symm
    clear hq
    go_wp2_with fail
    refine (ileaves_nil _).mono ?_
    rintro e w9 ⟨rfl, hq⟩
    obtain rfl := hq.symm
    clear hq
    go_wp2_with fail
    refine (wakesI_any w8 (HM.out.1.below HB8.out)).mono ?_
    rintro e w9 ⟨rfl, hb⟩
    have HB9 : Hid (Below w.heap.size w w9) := Mm.hid (Vl.btr HB8.out hb)
    have HX9 : Hid (w9.heap[g]? = some (.cells #[.int .i64 v.k, .int .i64 v.n, .float .f64 v.f, .string v.s] 34 (0, 0))) := Mm.hid ((hb.block _ (Mm.heapLt HX8.out)).trans HX8.out)
    clear hb HB8 HX8
    go_wp2_with fail
    go_ret
    exact ⟨rfl, HB9.out⟩

end Go.Proofs.YtjnaafgiokdcbaaGreatDoor
