/- KeyBetween: the walk. -/
import Derived.Test.YtlafccdaplgfoaaDoorS8
namespace Go.Proofs.YtlafccdaplgfoaaDoor
open Go.RowKit
namespace Ky
open Vl
theorem cmpV_turn {a b : V} (ha : GoodV a) (hb : GoodV b) : cmpV b a = -cmpV a b := by
  rw [← cmpS_key ha hb, ← cmpS_key hb ha]; exact cmpS_flip _ _
theorem cmpS_entAft {a b : V} (ha : GoodV a) (hb : GoodV b) {n : Nat} (hn : n < 65536) : cmpS (entB b (n : Int)) (aftB a) = if cmpV b a = 0 then -1 else cmpV b a := by
  unfold cmpS
  rw [entB_good hb hn, aft_good ha, key_cmp hb ha]
  have e : Lib.compareBytes (beL n 2) [255, 255, 0] = -1 := by
    have e1 : ([255, 255, 0] : List UInt8) = beL 65535 2 ++ [0] := by decide
    have e2 := cmp_num 2 n 65535 [] [0] hn (by omega)
    rw [List.append_nil] at e2
    rw [e1, e2]
    by_cases h : n = 65535
    · subst h; rfl
    · rw [cmpZ_lt (by omega)]; rfl
  rw [e]
theorem cmpS_leastEnt {a b : V} (ha : GoodV a) (hb : GoodV b) {n : Nat} (hn : n < 65536) : cmpS (entB a 0) (entB b (n : Int)) = if cmpV a b = 0 then cmpZ 0 (n : Int) else cmpV a b := cmpS_ent ha hb (m := 0) (by omega) hn
end Ky
attribute [local go_sem] Fl.run_store_float Vl.str_lss Vl.str_eql
attribute [local go_sem ↓] Go.wp_at_zero Go.wp_at_succ

set_option maxRecDepth 100000 in
set_option maxHeartbeats 4000000 in
theorem keyBetween_good (a b : Vl.V) (n : Nat) (w : World) (z x y u : Int) (hM : Ky.Mx w) (ha : Ky.GoodV a) (hb : Ky.GoodV b) (hn : n < 65536) (HZ : Hid (Vl.cmpV a b = z)) (c1 : Vl.cmpS (Ky.entB a 0) (Ky.entB a (n : Int)) = x) (c2 : Vl.cmpS (Ky.entB a (n : Int)) (Ky.aftB a) = -1)
    (c3 : Vl.cmpS (Ky.entB a 0) (Ky.entB b (n : Int)) = y) (c4 : Vl.cmpS (Ky.entB b (n : Int)) (Ky.aftB a) = u) (hx : x = -1 ∨ x = 0)
    (hy : (z = -1 ∧ y = -1 ∧ u = 1) ∨ (z = 1 ∧ y = 1 ∧ u = -1) ∨ (z = 0 ∧ y = -1 ∧ u = -1) ∨ (z = 0 ∧ y = 0 ∧ u = -1)) :
    Calls Tryd.prog 6 #[.agg #[.int .i64 a.k, .int .i64 a.n, .float .f64 a.f, .string a.s], .agg #[.int .i64 b.k, .int .i64 b.n, .float .f64 b.f, .string b.s], .int .u16 (n : Int)] w fun e w' => e = .returned (.bool true) ∧ Below w.heap.size w w' := by
  have ga := ha.g
  have gb := hb.g
  have HA := Vl.hid ha
  have HB := Vl.hid hb
  have e1 := Ky.entE_good ha hn
  have e2 := Ky.entE_good hb hn
  have e3 : Ky.entE a 0 = 0 := Ky.entE_good (m := 0) ha (by omega)
  have e4 := Ky.ofE_good ha
  have hwn : IntKind.i64.wrap (n : Int) = (n : Int) := by rw [IntKind.wrap_i64]; omega
  clear ha hb
  have HS0 := Vl.hid (Ky.St2.start w a b hM)
  clear hM
  go_enter Tryd.func6, Tryd.ntmps6
  obtain ⟨p0, p1, p2, p3⟩ := HS0.out.a.four
  obtain ⟨q0, q1, q2, q3⟩ := HS0.out.b.four
  go_wp2_with fail
  refine (refGood_any a.k a.n a.f a.s _).mono ?_
  rintro e w1 ⟨rfl, hb⟩
  have HS1 := Vl.hid (HS0.out.step hb)
  clear hb HS0 p0 p1 p2 p3 q0 q1 q2 q3
  obtain ⟨p0, p1, p2, p3⟩ := HS1.out.a.four
  obtain ⟨q0, q1, q2, q3⟩ := HS1.out.b.four
  go_wp2_with fail
  refine (refGood_any b.k b.n b.f b.s _).mono ?_
  rintro e w2 ⟨rfl, hb⟩
  have HS2 := Vl.hid (HS1.out.step hb)
  clear hb HS1 p0 p1 p2 p3 q0 q1 q2 q3
  obtain ⟨p0, p1, p2, p3⟩ := HS2.out.a.four
  obtain ⟨q0, q1, q2, q3⟩ := HS2.out.b.four
  go_wp2_with fail
  refine (least_any a _ HS2.out.m HA.out.inn).mono ?_
  rintro e w3 ⟨rfl, hb⟩
  have HS3 := Vl.hid (HS2.out.step hb)
  clear hb HS2 p0 p1 p2 p3 q0 q1 q2 q3
  obtain ⟨p0, p1, p2, p3⟩ := HS3.out.a.four
  obtain ⟨q0, q1, q2, q3⟩ := HS3.out.b.four
  go_wp2_with fail
  refine (after_any a _ HS3.out.m HA.out.inn).mono ?_
  rintro e w4 ⟨rfl, hb⟩
  have HS4 := Vl.hid (HS3.out.step hb)
  clear hb HS3 p0 p1 p2 p3 q0 q1 q2 q3
  obtain ⟨p0, p1, p2, p3⟩ := HS4.out.a.four
  obtain ⟨q0, q1, q2, q3⟩ := HS4.out.b.four
  go_wp2_with fail
  refine (entry_any a (n : Int) _ HS4.out.m HA.out.inn).mono ?_
  rintro e w5 ⟨rfl, hb⟩
  have HS5 := Vl.hid (HS4.out.step hb)
  clear hb HS4 p0 p1 p2 p3 q0 q1 q2 q3
  obtain ⟨p0, p1, p2, p3⟩ := HS5.out.a.four
  obtain ⟨q0, q1, q2, q3⟩ := HS5.out.b.four
  go_wp2_with fail
  refine (entry_any b (n : Int) _ HS5.out.m HB.out.inn).mono ?_
  rintro e w6 ⟨rfl, hb⟩
  have HS6 := Vl.hid (HS5.out.step hb)
  clear hb HS5 p0 p1 p2 p3 q0 q1 q2 q3
  obtain ⟨p0, p1, p2, p3⟩ := HS6.out.a.four
  obtain ⟨q0, q1, q2, q3⟩ := HS6.out.b.four
  rcases hx with rfl | rfl
  all_goals
    rcases hy with ⟨rfl, rfl, rfl⟩ | ⟨rfl, rfl, rfl⟩ | ⟨rfl, rfl, rfl⟩ | ⟨rfl, rfl, rfl⟩
    all_goals
      go_wp2_with fail
      refine (refCmpV_any a b _).mono ?_
      rintro e w7 ⟨rfl, hq⟩
      have hb := Ky.btwo hq
      rw [HZ.out]
      clear hq
      have HS7 := Vl.hid (HS6.out.step hb)
      clear hb HS6 p0 p1 p2 p3 q0 q1 q2 q3
      obtain ⟨p0, p1, p2, p3⟩ := HS7.out.a.four
      obtain ⟨q0, q1, q2, q3⟩ := HS7.out.b.four
      go_wp2_with fail
      refine (wakes_any _ HS7.out.m).mono ?_
      rintro e w' ⟨rfl, hb⟩
      go_wp2_with fail
      go_ret
      exact ⟨by first | rfl | (simp; done) | (simp; omega), Vl.btr HS7.out.l hb⟩

set_option maxRecDepth 100000 in
set_option maxHeartbeats 4000000 in
theorem keyBetween_bad (a b : Vl.V) (n : Nat) (w : World) (hM : Ky.Mx w) (h : Vl.goodB a.k a.n a.f a.s = false ∨ (Vl.goodB a.k a.n a.f a.s = true ∧ Vl.goodB b.k b.n b.f b.s = false)) :
    Calls Tryd.prog 6 #[.agg #[.int .i64 a.k, .int .i64 a.n, .float .f64 a.f, .string a.s], .agg #[.int .i64 b.k, .int .i64 b.n, .float .f64 b.f, .string b.s], .int .u16 (n : Int)] w fun e w' => e = .returned (.bool true) ∧ Below w.heap.size w w' := by
  rcases h with ga | ⟨ga, gb⟩
  · have HS0 := Vl.hid (Ky.St2.start w a b hM)
    clear hM
    go_enter Tryd.func6, Tryd.ntmps6
    obtain ⟨p0, p1, p2, p3⟩ := HS0.out.a.four
    obtain ⟨q0, q1, q2, q3⟩ := HS0.out.b.four
    go_wp2_with fail
    refine (refGood_any a.k a.n a.f a.s _).mono ?_
    rintro e w1 ⟨rfl, hb⟩
    have HS1 := Vl.hid (HS0.out.step hb)
    clear hb HS0 p0 p1 p2 p3 q0 q1 q2 q3
    obtain ⟨p0, p1, p2, p3⟩ := HS1.out.a.four
    obtain ⟨q0, q1, q2, q3⟩ := HS1.out.b.four
    go_wp2_with fail
    refine (wakes_any _ HS1.out.m).mono ?_
    rintro e w' ⟨rfl, hb⟩
    go_wp2_with fail
    go_ret
    exact ⟨by first | rfl | (simp; done) | (simp; omega), Vl.btr HS1.out.l hb⟩
  · have HS0 := Vl.hid (Ky.St2.start w a b hM)
    clear hM
    go_enter Tryd.func6, Tryd.ntmps6
    obtain ⟨p0, p1, p2, p3⟩ := HS0.out.a.four
    obtain ⟨q0, q1, q2, q3⟩ := HS0.out.b.four
    go_wp2_with fail
    refine (refGood_any a.k a.n a.f a.s _).mono ?_
    rintro e w1 ⟨rfl, hb⟩
    have HS1 := Vl.hid (HS0.out.step hb)
    clear hb HS0 p0 p1 p2 p3 q0 q1 q2 q3
    obtain ⟨p0, p1, p2, p3⟩ := HS1.out.a.four
    obtain ⟨q0, q1, q2, q3⟩ := HS1.out.b.four
    go_wp2_with fail
    refine (refGood_any b.k b.n b.f b.s _).mono ?_
    rintro e w2 ⟨rfl, hb⟩
    have HS2 := Vl.hid (HS1.out.step hb)
    clear hb HS1 p0 p1 p2 p3 q0 q1 q2 q3
    obtain ⟨p0, p1, p2, p3⟩ := HS2.out.a.four
    obtain ⟨q0, q1, q2, q3⟩ := HS2.out.b.four
    go_wp2_with fail
    refine (wakes_any _ HS2.out.m).mono ?_
    rintro e w' ⟨rfl, hb⟩
    go_wp2_with fail
    go_ret
    exact ⟨by first | rfl | (simp; done) | (simp; omega), Vl.btr HS2.out.l hb⟩

theorem keyBetween_any (a b : Vl.V) (n : Nat) (w : World) (hM : Ky.Mx w) (ha : Ky.In a) (hb : Ky.In b) (hn : n < 65536) :
    Calls Tryd.prog 6 #[.agg #[.int .i64 a.k, .int .i64 a.n, .float .f64 a.f, .string a.s], .agg #[.int .i64 b.k, .int .i64 b.n, .float .f64 b.f, .string b.s], .int .u16 (n : Int)] w fun e w' => e = .returned (.bool true) ∧ Below w.heap.size w w' := by
  cases ga : Vl.goodB a.k a.n a.f a.s
  · exact keyBetween_bad a b n w hM (.inl ga)
  cases gb : Vl.goodB b.k b.n b.f b.s
  · exact keyBetween_bad a b n w hM (.inr ⟨ga, gb⟩)
  have hA := ha.good ga
  have hB := hb.good gb
  have t := Ky.cmpV_turn hA hB
  have c1 := Ky.cmpS_leastEnt hA hA hn
  have c2 := Ky.cmpS_entAft hA hA hn
  have c3 := Ky.cmpS_leastEnt hA hB hn
  have c4 := Ky.cmpS_entAft hA hB hn
  rw [Ky.cmpV_self, if_pos rfl] at c1 c2
  have hx : Vl.cmpZ 0 (n : Int) = -1 ∨ Vl.cmpZ 0 (n : Int) = 0 := by
    by_cases h : 0 < n
    · exact .inl (Vl.cmpZ_lt (by omega))
    · exact .inr (Vl.cmpZ_eq (by omega))
  refine keyBetween_good a b n w _ _ _ _ hM hA hB hn (Vl.hid rfl) c1 c2 c3 c4 hx ?_
  rw [t]
  rcases Ky.cmpV_bd hA hB with h | h | h
  · rw [h]; exact .inl ⟨rfl, rfl, rfl⟩
  · rw [h]
    rcases hx with e | e
    · rw [e]; exact .inr (.inr (.inl ⟨rfl, rfl, rfl⟩))
    · rw [e]; exact .inr (.inr (.inr ⟨rfl, rfl, rfl⟩))
  · rw [h]; exact .inr (.inl ⟨rfl, rfl, rfl⟩)

end Go.Proofs.YtlafccdaplgfoaaDoor
