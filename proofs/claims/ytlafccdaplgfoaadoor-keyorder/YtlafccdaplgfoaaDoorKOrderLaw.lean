/- KeyOrder: the walk. -/
import Derived.Test.YtlafccdaplgfoaaDoorS8
namespace Go.Proofs.YtlafccdaplgfoaaDoor
open Go.RowKit
attribute [local go_sem] Fl.run_store_float Vl.str_lss Vl.str_eql
attribute [local go_sem ↓] Go.wp_at_zero Go.wp_at_succ

set_option maxRecDepth 100000 in
set_option maxHeartbeats 4000000 in
theorem keyOrder_good (a b : Vl.V) (m n : Nat) (w : World) (z y : Int) (hM : Ky.Mx w) (ha : Ky.GoodV a) (hb : Ky.GoodV b) (hm : m < 65536) (hn : n < 65536) (HZ : Hid (Vl.cmpV a b = z)) (c1 : Vl.cmpS (Ky.keyB a) (Ky.keyB b) = z) (c2 : Vl.cmpS (Ky.entB a (m : Int)) (Ky.entB b (n : Int)) = y)
    (hy : (z = -1 ∧ y = -1) ∨ (z = 1 ∧ y = 1) ∨ (z = 0 ∧ y = -1 ∧ (m : Int) < (n : Int)) ∨ (z = 0 ∧ y = 0 ∧ (m : Int) = (n : Int)) ∨ (z = 0 ∧ y = 1 ∧ (n : Int) < (m : Int))) :
    Calls Tryd.prog 5 #[.agg #[.int .i64 a.k, .int .i64 a.n, .float .f64 a.f, .string a.s], .agg #[.int .i64 b.k, .int .i64 b.n, .float .f64 b.f, .string b.s], .agg #[.int .u16 (m : Int), .int .u16 (n : Int)]] w fun e w' => e = .returned (.bool true) ∧ Below w.heap.size w w' := by
  have ga := ha.g
  have gb := hb.g
  have HA := Vl.hid ha
  have HB := Vl.hid hb
  have e1 := Ky.entE_good ha hm
  have e2 := Ky.entE_good hb hn
  have hwm : IntKind.i64.wrap (m : Int) = (m : Int) := by rw [IntKind.wrap_i64]; omega
  have hwn : IntKind.i64.wrap (n : Int) = (n : Int) := by rw [IntKind.wrap_i64]; omega
  clear ha hb
  have HS0 := Vl.hid (((Ky.St2.start w a b hM).step (Vl.bal (Below.refl _ _) (.cells #[.int .u16 (m : Int), .int .u16 (n : Int)] 48))).drew)
  clear hM
  go_enter Tryd.func5, Tryd.ntmps5
  go_wp2_with fail
  go_region_with fail
  all_goals
    obtain ⟨p0, p1, p2, p3⟩ := HS0.out.a.four
    obtain ⟨q0, q1, q2, q3⟩ := HS0.out.b.four
    go_wp2_with fail
    refine (refGood_any a.k a.n a.f a.s _).mono ?_
    rintro e w1 ⟨rfl, hb⟩
    have HS1 := Vl.hid (HS0.out.step hb)
    clear hb HS0 p0 p1 p2 p3 q0 q1 q2 q3
    obtain ⟨p0, p1, p2, p3⟩ := HS1.out.a.four
    obtain ⟨q0, q1, q2, q3⟩ := HS1.out.b.four
    go_wp2_with fail
    refine (refGood_any b.k b.n b.f b.s _).mono ?_
    rintro e w2 ⟨rfl, hb⟩
    have HS2 := Vl.hid (HS1.out.step hb)
    clear hb HS1 p0 p1 p2 p3 q0 q1 q2 q3
    obtain ⟨p0, p1, p2, p3⟩ := HS2.out.a.four
    obtain ⟨q0, q1, q2, q3⟩ := HS2.out.b.four
    go_wp2_with fail
    refine (of_yes a _ HS2.out.m HA.out).mono ?_
    rintro e w3 ⟨rfl, hb⟩
    have HS3 := Vl.hid (HS2.out.step hb)
    clear hb HS2 p0 p1 p2 p3 q0 q1 q2 q3
    obtain ⟨p0, p1, p2, p3⟩ := HS3.out.a.four
    obtain ⟨q0, q1, q2, q3⟩ := HS3.out.b.four
    go_wp2_with fail
    refine (of_yes b _ HS3.out.m HB.out).mono ?_
    rintro e w4 ⟨rfl, hb⟩
    have HS4 := Vl.hid (HS3.out.step hb)
    clear hb HS3 p0 p1 p2 p3 q0 q1 q2 q3
    obtain ⟨p0, p1, p2, p3⟩ := HS4.out.a.four
    obtain ⟨q0, q1, q2, q3⟩ := HS4.out.b.four
    go_wp2_with fail
    refine (entry_any a (m : Int) _ HS4.out.m HA.out.inn).mono ?_
    rintro e w5 ⟨rfl, hb⟩
    have HS5 := Vl.hid (HS4.out.step hb)
    clear hb HS4 p0 p1 p2 p3 q0 q1 q2 q3
    obtain ⟨p0, p1, p2, p3⟩ := HS5.out.a.four
    obtain ⟨q0, q1, q2, q3⟩ := HS5.out.b.four
    go_wp2_with fail
    refine (entry_any b (n : Int) _ HS5.out.m HB.out.inn).mono ?_
    rintro e w6 ⟨rfl, hb⟩
    have HS6 := Vl.hid (HS5.out.step hb)
    clear hb HS5 p0 p1 p2 p3 q0 q1 q2 q3
    obtain ⟨p0, p1, p2, p3⟩ := HS6.out.a.four
    obtain ⟨q0, q1, q2, q3⟩ := HS6.out.b.four
    go_wp2_with fail
    refine (refCmpV_any a b _).mono ?_
    rintro e w7 ⟨rfl, hq⟩
    have hb := Ky.btwo hq
    rw [HZ.out]
    clear hq
    have HS7 := Vl.hid (HS6.out.step hb)
    clear hb HS6 p0 p1 p2 p3 q0 q1 q2 q3
    obtain ⟨p0, p1, p2, p3⟩ := HS7.out.a.four
    obtain ⟨q0, q1, q2, q3⟩ := HS7.out.b.four
    rcases hy with ⟨rfl, rfl⟩ | ⟨rfl, rfl⟩ | ⟨rfl, rfl, hlt⟩ | ⟨rfl, rfl, hlt⟩ | ⟨rfl, rfl, hlt⟩
    · go_wp2_with fail
      refine (wakes_any _ HS7.out.m).mono ?_
      rintro e w' ⟨rfl, hb⟩
      go_wp2_with fail
      go_ret
      exact ⟨by first | rfl | (simp; done) | (simp; omega), Vl.btr HS7.out.l hb⟩
    · go_wp2_with fail
      refine (wakes_any _ HS7.out.m).mono ?_
      rintro e w' ⟨rfl, hb⟩
      go_wp2_with fail
      go_ret
      exact ⟨by first | rfl | (simp; done) | (simp; omega), Vl.btr HS7.out.l hb⟩
    · go_wp2_with fail
      refine (wakes_any _ HS7.out.m).mono ?_
      rintro e w' ⟨rfl, hb⟩
      go_wp2_with fail
      go_ret
      exact ⟨by first | rfl | (simp; done) | (simp; omega), Vl.btr HS7.out.l hb⟩
    · obtain rfl : m = n := Int.ofNat.inj hlt
      clear hlt
      go_wp2_with fail
      refine (wakes_any _ HS7.out.m).mono ?_
      rintro e w' ⟨rfl, hb⟩
      go_wp2_with fail
      go_ret
      exact ⟨by first | rfl | (simp; done) | (simp; omega), Vl.btr HS7.out.l hb⟩
    · go_wp2_with fail
      refine (wakes_any _ HS7.out.m).mono ?_
      rintro e w' ⟨rfl, hb⟩
      go_wp2_with fail
      go_ret
      exact ⟨by first | rfl | (simp; done) | (simp; omega), Vl.btr HS7.out.l hb⟩

set_option maxRecDepth 100000 in
set_option maxHeartbeats 4000000 in
theorem keyOrder_bad (a b : Vl.V) (m n : Nat) (w : World) (hM : Ky.Mx w) (h : Vl.goodB a.k a.n a.f a.s = false ∨ (Vl.goodB a.k a.n a.f a.s = true ∧ Vl.goodB b.k b.n b.f b.s = false)) :
    Calls Tryd.prog 5 #[.agg #[.int .i64 a.k, .int .i64 a.n, .float .f64 a.f, .string a.s], .agg #[.int .i64 b.k, .int .i64 b.n, .float .f64 b.f, .string b.s], .agg #[.int .u16 (m : Int), .int .u16 (n : Int)]] w fun e w' => e = .returned (.bool true) ∧ Below w.heap.size w w' := by
  rcases h with ga | ⟨ga, gb⟩
  · have HS0 := Vl.hid (((Ky.St2.start w a b hM).step (Vl.bal (Below.refl _ _) (.cells #[.int .u16 (m : Int), .int .u16 (n : Int)] 48))).drew)
    clear hM
    go_enter Tryd.func5, Tryd.ntmps5
    go_wp2_with fail
    go_region_with fail
    all_goals
      obtain ⟨p0, p1, p2, p3⟩ := HS0.out.a.four
      obtain ⟨q0, q1, q2, q3⟩ := HS0.out.b.four
      go_wp2_with fail
      refine (refGood_any a.k a.n a.f a.s _).mono ?_
      rintro e w1 ⟨rfl, hb⟩
      have HS1 := Vl.hid (HS0.out.step hb)
      clear hb HS0 p0 p1 p2 p3 q0 q1 q2 q3
      obtain ⟨p0, p1, p2, p3⟩ := HS1.out.a.four
      obtain ⟨q0, q1, q2, q3⟩ := HS1.out.b.four
      go_wp2_with fail
      refine (wakes_any _ HS1.out.m).mono ?_
      rintro e w' ⟨rfl, hb⟩
      go_wp2_with fail
      go_ret
      exact ⟨by first | rfl | (simp; done) | (simp; omega), Vl.btr HS1.out.l hb⟩
  · have HS0 := Vl.hid (((Ky.St2.start w a b hM).step (Vl.bal (Below.refl _ _) (.cells #[.int .u16 (m : Int), .int .u16 (n : Int)] 48))).drew)
    clear hM
    go_enter Tryd.func5, Tryd.ntmps5
    go_wp2_with fail
    go_region_with fail
    all_goals
      obtain ⟨p0, p1, p2, p3⟩ := HS0.out.a.four
      obtain ⟨q0, q1, q2, q3⟩ := HS0.out.b.four
      go_wp2_with fail
      refine (refGood_any a.k a.n a.f a.s _).mono ?_
      rintro e w1 ⟨rfl, hb⟩
      have HS1 := Vl.hid (HS0.out.step hb)
      clear hb HS0 p0 p1 p2 p3 q0 q1 q2 q3
      obtain ⟨p0, p1, p2, p3⟩ := HS1.out.a.four
      obtain ⟨q0, q1, q2, q3⟩ := HS1.out.b.four
      go_wp2_with fail
      refine (refGood_any b.k b.n b.f b.s _).mono ?_
      rintro e w2 ⟨rfl, hb⟩
      have HS2 := Vl.hid (HS1.out.step hb)
      clear hb HS1 p0 p1 p2 p3 q0 q1 q2 q3
      obtain ⟨p0, p1, p2, p3⟩ := HS2.out.a.four
      obtain ⟨q0, q1, q2, q3⟩ := HS2.out.b.four
      go_wp2_with fail
      refine (wakes_any _ HS2.out.m).mono ?_
      rintro e w' ⟨rfl, hb⟩
      go_wp2_with fail
      go_ret
      exact ⟨by first | rfl | (simp; done) | (simp; omega), Vl.btr HS2.out.l hb⟩

theorem keyOrder_any (a b : Vl.V) (m n : Nat) (w : World) (hM : Ky.Mx w) (ha : Ky.In a) (hb : Ky.In b) (hm : m < 65536) (hn : n < 65536) :
    Calls Tryd.prog 5 #[.agg #[.int .i64 a.k, .int .i64 a.n, .float .f64 a.f, .string a.s], .agg #[.int .i64 b.k, .int .i64 b.n, .float .f64 b.f, .string b.s], .agg #[.int .u16 (m : Int), .int .u16 (n : Int)]] w fun e w' => e = .returned (.bool true) ∧ Below w.heap.size w w' := by
  cases ga : Vl.goodB a.k a.n a.f a.s
  · exact keyOrder_bad a b m n w hM (.inl ga)
  cases gb : Vl.goodB b.k b.n b.f b.s
  · exact keyOrder_bad a b m n w hM (.inr ⟨ga, gb⟩)
  have hA := ha.good ga
  have hB := hb.good gb
  have c2 := Ky.cmpS_ent hA hB hm hn
  refine keyOrder_good a b m n w _ _ hM hA hB hm hn (Vl.hid rfl) (Ky.cmpS_key hA hB) c2 ?_
  rcases Ky.cmpV_bd hA hB with h | h | h
  · rw [h]; exact .inl ⟨rfl, rfl⟩
  · rw [h, if_pos rfl]
    rcases Int.lt_trichotomy (m : Int) (n : Int) with e | e | e
    · exact .inr (.inr (.inl ⟨rfl, Vl.cmpZ_lt e, e⟩))
    · exact .inr (.inr (.inr (.inl ⟨rfl, Vl.cmpZ_eq e, e⟩)))
    · exact .inr (.inr (.inr (.inr ⟨rfl, Vl.cmpZ_gt e, e⟩)))
  · rw [h]; exact .inr (.inl ⟨rfl, rfl⟩)

end Go.Proofs.YtlafccdaplgfoaaDoor
