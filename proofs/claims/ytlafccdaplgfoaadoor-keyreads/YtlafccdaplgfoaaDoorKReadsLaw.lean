/- KeyReads: the walk. -/
import Derived.Test.YtlafccdaplgfoaaDoorKT6
namespace Go.Proofs.YtlafccdaplgfoaaDoor
open Go.RowKit
attribute [local go_sem] Fl.run_store_float
attribute [local go_sem ↓] Go.wp_at_zero Go.wp_at_succ
namespace Ky
open Vl
/-- Four cells hold a value. -/
def Box (w : World) (b : Nat) (v : V) : Prop := w.cell? ⟨b, 0, none⟩ = some (.int .i64 v.k) ∧ w.cell? ⟨b, 1, none⟩ = some (.int .i64 v.n) ∧ w.cell? ⟨b, 2, none⟩ = some (.float .f64 v.f) ∧ w.cell? ⟨b, 3, none⟩ = some (.string v.s)
theorem Box.lt {w : World} {b : Nat} {v : V} (h : Box w b v) : b < w.heap.size := World.block_lt_of_cell? _ _ h.1
theorem Box.below {w w1 : World} {b : Nat} {v : V} (h : Box w b v) (hb : Below w.heap.size w w1) : Box w1 b v :=
  ⟨(atc hb h.lt).trans h.1, (atc hb h.lt).trans h.2.1, (atc hb h.lt).trans h.2.2.1, (atc hb h.lt).trans h.2.2.2⟩
theorem Box.made (w : World) (v : V) (t : TypeId) : Box (w.alloc (.cells #[.int .i64 v.k, .int .i64 v.n, .float .f64 v.f, .string v.s] t)) w.heap.size v := by
  unfold Box; simp [go_sem]
/-- And a number behind it. -/
def Box5 (w : World) (b : Nat) (v : V) (n : Int) : Prop := Box w b v ∧ w.cell? ⟨b, 4, none⟩ = some (.int .i64 n)
theorem Box5.below {w w1 : World} {b : Nat} {v : V} {n : Int} (h : Box5 w b v n) (hb : Below w.heap.size w w1) : Box5 w1 b v n := ⟨h.1.below hb, (atc hb h.1.lt).trans h.2⟩
theorem Box5.made (w : World) (v : V) (n : Int) (t : TypeId) : Box5 (w.alloc (.cells #[.int .i64 v.k, .int .i64 v.n, .float .f64 v.f, .string v.s, .int .i64 n] t)) w.heap.size v n := by
  unfold Box5 Box; simp [go_sem]
end Ky

set_option maxRecDepth 100000 in
set_option maxHeartbeats 4000000 in
theorem keyReads_any (k : ByteArray) (w : World) (hM : Ky.Mx w) (_hk : k.size ≤ maxLen) :
    Calls Tryd.prog 4 #[.string k] w fun e w' => e = .returned (.bool true) ∧ Below w.heap.size w w' := by
  have HM := Vl.hid hM
  clear hM
  by_cases hl : 4000 < k.size
  · have hd : decide ((4000 : Int) < (k.size : Int)) = true := decide_eq_true (by omega)
    go_enter Tryd.func4, Tryd.ntmps4
    go_wp2_with fail
    refine (wakes_any _ HM.out).mono ?_
    rintro e w' ⟨rfl, hb⟩
    go_wp2_with fail
    go_ret
    exact ⟨rfl, hb⟩
  · have hd : decide ((4000 : Int) < (k.size : Int)) = false := decide_eq_false (by omega)
    have hs : k.size ≤ 50000 := by omega
    go_enter Tryd.func4, Tryd.ntmps4
    go_wp2_with fail
    refine (value_any k _ HM.out hs).mono ?_
    rintro e w1 ⟨o, rfl, ho, hb⟩
    have HO := Vl.hid ho
    have s : ∀ (W : World) (o : Obj), Below W.heap.size W (W.alloc o) := fun W o => Vl.bal (Below.refl _ _) o
    have HSS := Vl.hid s
    rw [Ky.valT_eq]
    have HM1 := Vl.hid ((HM.out.below hb).below (HSS.out _ (.cells #[.int .i64 (Ky.oV o).k, .int .i64 (Ky.oV o).n, .float .f64 (Ky.oV o).f, .string (Ky.oV o).s] 24)))
    have HB1 := Vl.hid (Vl.bal hb (.cells #[.int .i64 (Ky.oV o).k, .int .i64 (Ky.oV o).n, .float .f64 (Ky.oV o).f, .string (Ky.oV o).s] 24))
    have HV1 := Vl.hid (Ky.Box.made w1 (Ky.oV o) 24)
    clear hb ho HM s
    go_wp2_with fail
    refine (refValue_any k _ hs).mono ?_
    rintro e w2 ⟨o', rfl, ho, hb⟩
    obtain rfl := Ky.KeyIs.one HO.out ho
    rw [Ky.valT_eq]
    have HM2 := Vl.hid ((HM1.out.below hb).below (HSS.out _ (.cells #[.int .i64 (Ky.oV o).k, .int .i64 (Ky.oV o).n, .float .f64 (Ky.oV o).f, .string (Ky.oV o).s] 24)))
    have HB2 := Vl.hid (Vl.bal (Vl.btr HB1.out hb) (.cells #[.int .i64 (Ky.oV o).k, .int .i64 (Ky.oV o).n, .float .f64 (Ky.oV o).f, .string (Ky.oV o).s] 24))
    have HV2 := Vl.hid ((HV1.out.below hb).below (HSS.out _ (.cells #[.int .i64 (Ky.oV o).k, .int .i64 (Ky.oV o).n, .float .f64 (Ky.oV o).f, .string (Ky.oV o).s] 24)))
    have HW2 := Vl.hid (Ky.Box.made w2 (Ky.oV o) 24)
    clear hb ho HM1 HB1 HV1
    go_wp2_with fail
    refine (split_any k _ HM2.out hs).mono ?_
    rintro e w3 ⟨p, rfl, hp, hb⟩
    have HP := Vl.hid hp
    rw [Ky.splT_eq]
    have HB3 := Vl.hid (Vl.bal (Vl.btr HB2.out hb) (.cells #[.int .i64 (Ky.pV p).k, .int .i64 (Ky.pV p).n, .float .f64 (Ky.pV p).f, .string (Ky.pV p).s] 24))
    have HM3 := Vl.hid ((HM2.out.below hb).below (HSS.out _ (.cells #[.int .i64 (Ky.pV p).k, .int .i64 (Ky.pV p).n, .float .f64 (Ky.pV p).f, .string (Ky.pV p).s] 24)))
    have HV3 := Vl.hid ((HV2.out.below hb).below (HSS.out _ (.cells #[.int .i64 (Ky.pV p).k, .int .i64 (Ky.pV p).n, .float .f64 (Ky.pV p).f, .string (Ky.pV p).s] 24)))
    have HW3 := Vl.hid ((HW2.out.below hb).below (HSS.out _ (.cells #[.int .i64 (Ky.pV p).k, .int .i64 (Ky.pV p).n, .float .f64 (Ky.pV p).f, .string (Ky.pV p).s] 24)))
    have HX3 := Vl.hid (Ky.Box.made w3 (Ky.pV p) 24)
    clear hb hp HM2 HB2 HV2 HW2
    go_wp2_with fail
    refine (refSplit_any k _ hs).mono ?_
    rintro e w4 ⟨p', rfl, hp, hb⟩
    obtain rfl := Ky.EntIs.one HP.out hp
    unfold Ky.gotT
    have HB4 := Vl.hid (Vl.btr HB3.out hb)
    have HM4 := Vl.hid (HM3.out.below hb)
    have HV4 := Vl.hid (HV3.out.below hb)
    have HW4 := Vl.hid (HW3.out.below hb)
    have HX4 := Vl.hid (HX3.out.below hb)
    clear hb hp HM3 HB3 HV3 HW3 HX3
    obtain ⟨a0, a1, a2, a3⟩ := HV4.out
    obtain ⟨b0, b1, b2, b3⟩ := HW4.out
    obtain ⟨c0, c1, c2, c3⟩ := HX4.out
    have z1 := HV4.out.lt
    have z2 := HW4.out.lt
    have z3 := HX4.out.lt
    go_wp2_with fail
    refine (keepValue_same (Ky.oV o) _).mono ?_
    rintro e w5 ⟨rfl, hb⟩
    have HY := Vl.hid (Ky.Box5.made w4 (Ky.pV p) (Ky.pN p) 42)
    have HY5 := Vl.hid (HY.out.below hb)
    have HX5 := Vl.hid ((HX4.out.below (HSS.out _ (.cells #[.int .i64 (Ky.pV p).k, .int .i64 (Ky.pV p).n, .float .f64 (Ky.pV p).f, .string (Ky.pV p).s, .int .i64 (Ky.pN p)] 42))).below hb)
    have HM5 := Vl.hid ((HM4.out.below (HSS.out _ (.cells #[.int .i64 (Ky.pV p).k, .int .i64 (Ky.pV p).n, .float .f64 (Ky.pV p).f, .string (Ky.pV p).s, .int .i64 (Ky.pN p)] 42))).below hb)
    have HB5 := Vl.hid (Vl.btr (Vl.bal HB4.out (.cells #[.int .i64 (Ky.pV p).k, .int .i64 (Ky.pV p).n, .float .f64 (Ky.pV p).f, .string (Ky.pV p).s, .int .i64 (Ky.pN p)] 42)) hb)
    clear hb HM4 HB4 HV4 HW4 HX4 HY a0 a1 a2 a3 b0 b1 b2 b3 c0 c1 c2 c3 z1 z2 z3
    obtain ⟨c0, c1, c2, c3⟩ := HX5.out
    obtain ⟨⟨y0, y1, y2, y3⟩, y4⟩ := HY5.out
    go_wp2_with fail
    refine (keepValue_same (Ky.pV p) _).mono ?_
    rintro e w6 ⟨rfl, hb⟩
    have HY6 := Vl.hid (HY5.out.below hb)
    have HM6 := Vl.hid (HM5.out.below hb)
    have HB6 := Vl.hid (Vl.btr HB5.out hb)
    clear hb HM5 HB5 HX5 HY5 c0 c1 c2 c3 y0 y1 y2 y3 y4
    have y4 := HY6.out.2
    go_wp2_with fail
    refine (wakes_any _ HM6.out).mono ?_
    rintro e w' ⟨rfl, hb⟩
    go_wp2_with fail
    go_ret
    exact ⟨rfl, Vl.btr HB6.out hb⟩

end Go.Proofs.YtlafccdaplgfoaaDoor
