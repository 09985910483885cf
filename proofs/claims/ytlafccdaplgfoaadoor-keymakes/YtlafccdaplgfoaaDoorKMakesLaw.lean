/- KeyMakes: the walk. -/
import Derived.Test.YtlafccdaplgfoaaDoorKR3
namespace Go.Proofs.YtlafccdaplgfoaaDoor
open Go.RowKit
attribute [local go_sem] Fl.run_store_float
attribute [local go_sem ↓] Go.wp_at_zero Go.wp_at_succ

set_option maxRecDepth 100000 in
set_option maxHeartbeats 4000000 in
theorem keyMakes_any (v : Vl.V) (n : Int) (w : World) (hM : Ky.Mx w) (hv : Ky.In v) :
    Calls Tryd.prog 3 #[.agg #[.int .i64 v.k, .int .i64 v.n, .float .f64 v.f, .string v.s], .int .i64 n] w fun e w' => e = .returned (.bool true) ∧ Below w.heap.size w w' := by
  have HS0 := Vl.hid (Ky.St1.start w v hM)
  have HV := Vl.hid hv
  clear hM hv
  cases h : decide ((2000 : Int) < (v.s.size : Int))
  · obtain ⟨p0, p1, p2, p3⟩ := HS0.out.a.four
    go_enter Tryd.func3, Tryd.ntmps3
    go_wp2_with fail
    refine (largeValue_any v _).mono ?_
    rintro e w1 ⟨rfl, hq⟩
    have hb := Ky.bone hq
    clear hq
    have HS1 := Vl.hid (HS0.out.step hb)
    clear hb HS0 p0 p1 p2 p3
    obtain ⟨p0, p1, p2, p3⟩ := HS1.out.a.four
    go_wp2_with fail
    refine (of_any v _ HS1.out.m HV.out).mono ?_
    rintro e w2 ⟨rfl, hb⟩
    have HS2 := Vl.hid (HS1.out.step hb)
    clear hb HS1 p0 p1 p2 p3
    obtain ⟨p0, p1, p2, p3⟩ := HS2.out.a.four
    go_wp2_with fail
    refine (refOf_any v _ HS2.out.m HV.out).mono ?_
    rintro e w3 ⟨rfl, hb⟩
    have HS3 := Vl.hid (HS2.out.step hb)
    clear hb HS2 p0 p1 p2 p3
    obtain ⟨p0, p1, p2, p3⟩ := HS3.out.a.four
    go_wp2_with fail
    refine (entry_any v n _ HS3.out.m HV.out).mono ?_
    rintro e w4 ⟨rfl, hb⟩
    have HS4 := Vl.hid (HS3.out.step hb)
    clear hb HS3 p0 p1 p2 p3
    obtain ⟨p0, p1, p2, p3⟩ := HS4.out.a.four
    go_wp2_with fail
    refine (refEntry_any v n _ HS4.out.m HV.out).mono ?_
    rintro e w5 ⟨rfl, hb⟩
    have HS5 := Vl.hid (HS4.out.step hb)
    clear hb HS4 p0 p1 p2 p3
    obtain ⟨p0, p1, p2, p3⟩ := HS5.out.a.four
    go_wp2_with fail
    refine (least_any v _ HS5.out.m HV.out).mono ?_
    rintro e w6 ⟨rfl, hb⟩
    have HS6 := Vl.hid (HS5.out.step hb)
    clear hb HS5 p0 p1 p2 p3
    obtain ⟨p0, p1, p2, p3⟩ := HS6.out.a.four
    go_wp2_with fail
    refine (refLeast_any v _ HS6.out.m HV.out).mono ?_
    rintro e w7 ⟨rfl, hb⟩
    have HS7 := Vl.hid (HS6.out.step hb)
    clear hb HS6 p0 p1 p2 p3
    obtain ⟨p0, p1, p2, p3⟩ := HS7.out.a.four
    go_wp2_with fail
    refine (after_any v _ HS7.out.m HV.out).mono ?_
    rintro e w8 ⟨rfl, hb⟩
    have HS8 := Vl.hid (HS7.out.step hb)
    clear hb HS7 p0 p1 p2 p3
    obtain ⟨p0, p1, p2, p3⟩ := HS8.out.a.four
    go_wp2_with fail
    refine (refAfter_any v _ HS8.out.m HV.out).mono ?_
    rintro e w9 ⟨rfl, hb⟩
    have HS9 := Vl.hid (HS8.out.step hb)
    clear hb HS8 p0 p1 p2 p3
    obtain ⟨p0, p1, p2, p3⟩ := HS9.out.a.four
    go_wp2_with fail
    refine (wakes_any _ HS9.out.m).mono ?_
    rintro e w' ⟨rfl, hb⟩
    go_wp2_with fail
    go_ret
    exact ⟨rfl, Vl.btr HS9.out.l hb⟩
  · obtain ⟨p0, p1, p2, p3⟩ := HS0.out.a.four
    go_enter Tryd.func3, Tryd.ntmps3
    go_wp2_with fail
    refine (largeValue_any v _).mono ?_
    rintro e w1 ⟨rfl, hq⟩
    have hb := Ky.bone hq
    clear hq
    have HS1 := Vl.hid (HS0.out.step hb)
    clear hb HS0 p0 p1 p2 p3
    obtain ⟨p0, p1, p2, p3⟩ := HS1.out.a.four
    go_wp2_with fail
    refine (wakes_any _ HS1.out.m).mono ?_
    rintro e w' ⟨rfl, hb⟩
    go_wp2_with fail
    go_ret
    exact ⟨rfl, Vl.btr HS1.out.l hb⟩

end Go.Proofs.YtlafccdaplgfoaaDoor
