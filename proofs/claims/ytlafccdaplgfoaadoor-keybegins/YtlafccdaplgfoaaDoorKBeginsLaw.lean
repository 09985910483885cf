/- KeyBegins: the walk. -/
import Derived.Test.YtlafccdaplgfoaaDoorKBegins0
import Derived.Deep.QuietTactic
import Derived.BigQuiet
namespace Go.Proofs.YtlafccdaplgfoaaDoor
open Go.RowKit
attribute [local go_sem] Fl.run_store_float Vl.str_lss Vl.str_eql
attribute [local go_sem ↓] Go.wp_at_zero Go.wp_at_succ

namespace Ky
open Vl
theorem keyB_nil (a : V) : ¬ (keyB a).toList = [] ∧ (keyB a).toList.isEmpty = false := by
  have h : (keyB a).toList = keyL a := by rw [Lib.toList_data]; rfl
  rw [h]
  refine ⟨key_ne_nil a, ?_⟩
  cases hk : keyL a with
  | nil => exact absurd hk (key_ne_nil a)
  | cons _ _ => rfl
theorem turn_ne {a b : V} (ha : GoodV a) (hb : GoodV b) (h : cmpV a b ≠ 0) : cmpV b a ≠ 0 := by
  rw [← cmpS_key hb ha, cmpS_flip, cmpS_key ha hb]; omega
/-- What holds ahead of a round. -/
def RelB (w0 : World) (a c b d : V) (k : Nat) (w : World) : Prop :=
  (k = 0 ∧ StB w0 a c b d ⟨#[]⟩ ⟨#[]⟩ ⟨#[]⟩ ⟨#[]⟩ w) ∨ (k = 1 ∧ GoodV a ∧ GoodV b ∧ StB w0 a c b d (keyB a) ⟨#[]⟩ (keyB b) ⟨#[]⟩ w) ∨ (k = 2 ∧ GoodV a ∧ GoodV b ∧ GoodV c ∧ GoodV d ∧ StB w0 a c b d (keyB a) (keyB c) (keyB b) (keyB d) w)
end Ky

set_option maxRecDepth 100000 in
set_option maxHeartbeats 4000000 in
theorem keyBegins_any (a c b d : Vl.V) (w : World) (hM : Ky.Mx w) (ha : Ky.In a) (hc : Ky.In c) (hb : Ky.In b) (hd : Ky.In d) :
    Calls Tryd.prog 8 #[.agg #[.int .i64 a.k, .int .i64 a.n, .float .f64 a.f, .string a.s, .int .i64 c.k, .int .i64 c.n, .float .f64 c.f, .string c.s], .agg #[.int .i64 b.k, .int .i64 b.n, .float .f64 b.f, .string b.s, .int .i64 d.k, .int .i64 d.n, .float .f64 d.f, .string d.s]] w fun e w' => e = .returned (.bool true) ∧ Below w.heap.size w w' := by
  have HM := Vl.hid hM
  have HA := Vl.hid ha
  have HB := Vl.hid hb
  have HC := Vl.hid hc
  have HD := Vl.hid hd
  have HS := Vl.hid (Ky.StB.start w a c b d hM)
  clear hM ha hb hc hd
  go_enter Tryd.func8, Tryd.ntmps8
  go_wp2_with fail
  go_loopw [7] (fun i w' => ∃ k : Nat, i = .int .i64 k ∧ Hid (Ky.RelB w a c b d k w')) (fun i _ => 2 - (intOf i).toNat)
  case atStart => exact ⟨0, rfl, Vl.hid (.inl ⟨rfl, HS.out⟩)⟩
  case round =>
    rename_i wr
    obtain ⟨k, rfl, HR⟩ := hrel
    clear HS
    rcases HR.out with ⟨rfl, h0⟩ | ⟨rfl, ga, gb, h0⟩ | ⟨rfl, ga, gb, gc, gd, h0⟩
    · have HS0 := Vl.hid h0
      clear h0 HR
      obtain ⟨⟨p0, p1, p2, p3⟩, p4, p5, p6, p7⟩ := HS0.out.p
      obtain ⟨⟨q0, q1, q2, q3⟩, q4, q5, q6, q7⟩ := HS0.out.q
      cases g1 : Vl.goodB a.k a.n a.f a.s
      · go_wp2_with fail
        refine (refGood_any a.k a.n a.f a.s _).mono ?_
        rintro e w1 ⟨rfl, hb⟩
        have HS1 := Vl.hid (HS0.out.step hb)
        clear hb HS0 p0 p1 p2 p3 p4 p5 p6 p7 q0 q1 q2 q3 q4 q5 q6 q7
        obtain ⟨⟨p0, p1, p2, p3⟩, p4, p5, p6, p7⟩ := HS1.out.p
        obtain ⟨⟨q0, q1, q2, q3⟩, q4, q5, q6, q7⟩ := HS1.out.q
        go_wp2_with fail
        refine (wakes_any _ HS1.out.m).mono ?_
        rintro e w' ⟨rfl, hb⟩
        go_wp2_with fail
        go_ret
        exact ⟨by first | rfl | (simp; done), Vl.btr HS1.out.l hb⟩
      cases g2 : Vl.goodB b.k b.n b.f b.s
      · go_wp2_with fail
        refine (refGood_any a.k a.n a.f a.s _).mono ?_
        rintro e w1 ⟨rfl, hb⟩
        have HS1 := Vl.hid (HS0.out.step hb)
        clear hb HS0 p0 p1 p2 p3 p4 p5 p6 p7 q0 q1 q2 q3 q4 q5 q6 q7
        obtain ⟨⟨p0, p1, p2, p3⟩, p4, p5, p6, p7⟩ := HS1.out.p
        obtain ⟨⟨q0, q1, q2, q3⟩, q4, q5, q6, q7⟩ := HS1.out.q
        go_wp2_with fail
        refine (refGood_any b.k b.n b.f b.s _).mono ?_
        rintro e w2 ⟨rfl, hb⟩
        have HS2 := Vl.hid (HS1.out.step hb)
        clear hb HS1 p0 p1 p2 p3 p4 p5 p6 p7 q0 q1 q2 q3 q4 q5 q6 q7
        obtain ⟨⟨p0, p1, p2, p3⟩, p4, p5, p6, p7⟩ := HS2.out.p
        obtain ⟨⟨q0, q1, q2, q3⟩, q4, q5, q6, q7⟩ := HS2.out.q
        go_wp2_with fail
        refine (wakes_any _ HS2.out.m).mono ?_
        rintro e w' ⟨rfl, hb⟩
        go_wp2_with fail
        go_ret
        exact ⟨by first | rfl | (simp; done), Vl.btr HS2.out.l hb⟩
      have HG := Vl.hid (HA.out.good g1)
      have HH := Vl.hid (HB.out.good g2)
      obtain ⟨n1, m1⟩ := Ky.keyB_nil a
      obtain ⟨n2, m2⟩ := Ky.keyB_nil b
      go_wp2_with fail
      refine (refGood_any a.k a.n a.f a.s _).mono ?_
      rintro e w1 ⟨rfl, hb⟩
      have HS1 := Vl.hid (HS0.out.step hb)
      clear hb HS0 p0 p1 p2 p3 p4 p5 p6 p7 q0 q1 q2 q3 q4 q5 q6 q7
      obtain ⟨⟨p0, p1, p2, p3⟩, p4, p5, p6, p7⟩ := HS1.out.p
      obtain ⟨⟨q0, q1, q2, q3⟩, q4, q5, q6, q7⟩ := HS1.out.q
      go_wp2_with fail
      refine (refGood_any b.k b.n b.f b.s _).mono ?_
      rintro e w2 ⟨rfl, hb⟩
      have HS2 := Vl.hid (HS1.out.step hb)
      clear hb HS1 p0 p1 p2 p3 p4 p5 p6 p7 q0 q1 q2 q3 q4 q5 q6 q7
      obtain ⟨⟨p0, p1, p2, p3⟩, p4, p5, p6, p7⟩ := HS2.out.p
      obtain ⟨⟨q0, q1, q2, q3⟩, q4, q5, q6, q7⟩ := HS2.out.q
      go_wp2_with fail
      refine (of_yes a _ HS2.out.m HG.out).mono ?_
      rintro e w3 ⟨rfl, hb⟩
      have HS3 := Vl.hid (HS2.out.step hb)
      clear hb HS2 p0 p1 p2 p3 p4 p5 p6 p7 q0 q1 q2 q3 q4 q5 q6 q7
      obtain ⟨⟨p0, p1, p2, p3⟩, p4, p5, p6, p7⟩ := HS3.out.p
      obtain ⟨⟨q0, q1, q2, q3⟩, q4, q5, q6, q7⟩ := HS3.out.q
      go_wp2_with fail
      refine (of_yes b _ HS3.out.m HH.out).mono ?_
      rintro e w4 ⟨rfl, hb⟩
      have HS4 := Vl.hid (HS3.out.step hb)
      clear hb HS3 p0 p1 p2 p3 p4 p5 p6 p7 q0 q1 q2 q3 q4 q5 q6 q7
      obtain ⟨⟨p0, p1, p2, p3⟩, p4, p5, p6, p7⟩ := HS4.out.p
      obtain ⟨⟨q0, q1, q2, q3⟩, q4, q5, q6, q7⟩ := HS4.out.q
      obtain ⟨⟨x0, x1⟩, x2, x3⟩ := HS4.out.x
      obtain ⟨⟨y0, y1⟩, y2, y3⟩ := HS4.out.y
      go_wp2_with fail
      exact ⟨⟨1, rfl, Vl.hid (.inr (.inl ⟨rfl, HG.out, HH.out, (HS4.out.set HM.out _ _).1⟩))⟩, by decide⟩
    · have HS0 := Vl.hid h0
      clear h0 HR
      have HGA := Vl.hid ga
      have HGB := Vl.hid gb
      clear ga gb
      obtain ⟨⟨p0, p1, p2, p3⟩, p4, p5, p6, p7⟩ := HS0.out.p
      obtain ⟨⟨q0, q1, q2, q3⟩, q4, q5, q6, q7⟩ := HS0.out.q
      cases g1 : Vl.goodB c.k c.n c.f c.s
      · go_wp2_with fail
        refine (refGood_any c.k c.n c.f c.s _).mono ?_
        rintro e w1 ⟨rfl, hb⟩
        have HS1 := Vl.hid (HS0.out.step hb)
        clear hb HS0 p0 p1 p2 p3 p4 p5 p6 p7 q0 q1 q2 q3 q4 q5 q6 q7
        obtain ⟨⟨p0, p1, p2, p3⟩, p4, p5, p6, p7⟩ := HS1.out.p
        obtain ⟨⟨q0, q1, q2, q3⟩, q4, q5, q6, q7⟩ := HS1.out.q
        go_wp2_with fail
        refine (wakes_any _ HS1.out.m).mono ?_
        rintro e w' ⟨rfl, hb⟩
        go_wp2_with fail
        go_ret
        exact ⟨by first | rfl | (simp; done), Vl.btr HS1.out.l hb⟩
      cases g2 : Vl.goodB d.k d.n d.f d.s
      · go_wp2_with fail
        refine (refGood_any c.k c.n c.f c.s _).mono ?_
        rintro e w1 ⟨rfl, hb⟩
        have HS1 := Vl.hid (HS0.out.step hb)
        clear hb HS0 p0 p1 p2 p3 p4 p5 p6 p7 q0 q1 q2 q3 q4 q5 q6 q7
        obtain ⟨⟨p0, p1, p2, p3⟩, p4, p5, p6, p7⟩ := HS1.out.p
        obtain ⟨⟨q0, q1, q2, q3⟩, q4, q5, q6, q7⟩ := HS1.out.q
        go_wp2_with fail
        refine (refGood_any d.k d.n d.f d.s _).mono ?_
        rintro e w2 ⟨rfl, hb⟩
        have HS2 := Vl.hid (HS1.out.step hb)
        clear hb HS1 p0 p1 p2 p3 p4 p5 p6 p7 q0 q1 q2 q3 q4 q5 q6 q7
        obtain ⟨⟨p0, p1, p2, p3⟩, p4, p5, p6, p7⟩ := HS2.out.p
        obtain ⟨⟨q0, q1, q2, q3⟩, q4, q5, q6, q7⟩ := HS2.out.q
        go_wp2_with fail
        refine (wakes_any _ HS2.out.m).mono ?_
        rintro e w' ⟨rfl, hb⟩
        go_wp2_with fail
        go_ret
        exact ⟨by first | rfl | (simp; done), Vl.btr HS2.out.l hb⟩
      have HG := Vl.hid (HC.out.good g1)
      have HH := Vl.hid (HD.out.good g2)
      obtain ⟨n1, m1⟩ := Ky.keyB_nil c
      obtain ⟨n2, m2⟩ := Ky.keyB_nil d
      go_wp2_with fail
      refine (refGood_any c.k c.n c.f c.s _).mono ?_
      rintro e w1 ⟨rfl, hb⟩
      have HS1 := Vl.hid (HS0.out.step hb)
      clear hb HS0 p0 p1 p2 p3 p4 p5 p6 p7 q0 q1 q2 q3 q4 q5 q6 q7
      obtain ⟨⟨p0, p1, p2, p3⟩, p4, p5, p6, p7⟩ := HS1.out.p
      obtain ⟨⟨q0, q1, q2, q3⟩, q4, q5, q6, q7⟩ := HS1.out.q
      go_wp2_with fail
      refine (refGood_any d.k d.n d.f d.s _).mono ?_
      rintro e w2 ⟨rfl, hb⟩
      have HS2 := Vl.hid (HS1.out.step hb)
      clear hb HS1 p0 p1 p2 p3 p4 p5 p6 p7 q0 q1 q2 q3 q4 q5 q6 q7
      obtain ⟨⟨p0, p1, p2, p3⟩, p4, p5, p6, p7⟩ := HS2.out.p
      obtain ⟨⟨q0, q1, q2, q3⟩, q4, q5, q6, q7⟩ := HS2.out.q
      go_wp2_with fail
      refine (of_yes c _ HS2.out.m HG.out).mono ?_
      rintro e w3 ⟨rfl, hb⟩
      have HS3 := Vl.hid (HS2.out.step hb)
      clear hb HS2 p0 p1 p2 p3 p4 p5 p6 p7 q0 q1 q2 q3 q4 q5 q6 q7
      obtain ⟨⟨p0, p1, p2, p3⟩, p4, p5, p6, p7⟩ := HS3.out.p
      obtain ⟨⟨q0, q1, q2, q3⟩, q4, q5, q6, q7⟩ := HS3.out.q
      go_wp2_with fail
      refine (of_yes d _ HS3.out.m HH.out).mono ?_
      rintro e w4 ⟨rfl, hb⟩
      have HS4 := Vl.hid (HS3.out.step hb)
      clear hb HS3 p0 p1 p2 p3 p4 p5 p6 p7 q0 q1 q2 q3 q4 q5 q6 q7
      obtain ⟨⟨p0, p1, p2, p3⟩, p4, p5, p6, p7⟩ := HS4.out.p
      obtain ⟨⟨q0, q1, q2, q3⟩, q4, q5, q6, q7⟩ := HS4.out.q
      obtain ⟨⟨x0, x1⟩, x2, x3⟩ := HS4.out.x
      obtain ⟨⟨y0, y1⟩, y2, y3⟩ := HS4.out.y
      go_wp2_with fail
      exact ⟨⟨2, rfl, Vl.hid (.inr (.inr ⟨rfl, HGA.out, HGB.out, HG.out, HH.out, (HS4.out.set HM.out _ _).2⟩))⟩, by decide⟩
    · have HS0 := Vl.hid h0
      clear h0 HR
      obtain ⟨⟨p0, p1, p2, p3⟩, p4, p5, p6, p7⟩ := HS0.out.p
      obtain ⟨⟨q0, q1, q2, q3⟩, q4, q5, q6, q7⟩ := HS0.out.q
      have HG := Vl.hid (And.intro ga (And.intro gb (And.intro gc gd)))
      clear ga gb gc gd
      go_wp2_with fail
      refine (refCmpV_any a b _).mono ?_
      rintro e w1 ⟨rfl, hq⟩
      have HS1 := Vl.hid (HS0.out.step (Ky.btwo hq))
      clear hq HS0 p0 p1 p2 p3 p4 p5 p6 p7 q0 q1 q2 q3 q4 q5 q6 q7
      obtain ⟨⟨p0, p1, p2, p3⟩, p4, p5, p6, p7⟩ := HS1.out.p
      obtain ⟨⟨q0, q1, q2, q3⟩, q4, q5, q6, q7⟩ := HS1.out.q
      obtain ⟨⟨x0, x1⟩, x2, x3⟩ := HS1.out.x
      obtain ⟨⟨y0, y1⟩, y2, y3⟩ := HS1.out.y
      generalize hz : Vl.cmpV a b = z
      have HZ := Vl.hid hz
      clear hz
      have l1 := Ky.keyB_size HG.out.1
      have l2 := Ky.keyB_size HG.out.2.1
      have l3 := Ky.keyB_size HG.out.2.2.1
      have l4 := Ky.keyB_size HG.out.2.2.2
      by_cases h0 : z = 0
      · subst h0
        have hy := Ky.cmpS_both HG.out.1 HG.out.2.1 HG.out.2.2.1 HG.out.2.2.2
        rw [HZ.out, if_pos rfl] at hy
        go_wp2_with fail
        go_quiet (fail)
        all_goals
          go_wp2_with fail
          refine (refCmpV_any c d _).mono ?_
          rintro e w2 ⟨rfl, hq⟩
          have HS2 := Vl.hid ((HS1.out.drewN _).step (Ky.btwo hq))
          clear hq HS1 p0 p1 p2 p3 p4 p5 p6 p7 q0 q1 q2 q3 q4 q5 q6 q7 x0 x1 x2 x3 y0 y1 y2 y3
          obtain ⟨⟨x0, x1⟩, x2, x3⟩ := HS2.out.x
          obtain ⟨⟨y0, y1⟩, y2, y3⟩ := HS2.out.y
          generalize hu : Vl.cmpV c d = u at hy
          clear hu
          go_wp2_with fail
          refine (wakes_any _ HS2.out.m).mono ?_
          rintro e w' ⟨rfl, hb⟩
          go_wp2_with fail
          go_ret
          exact ⟨by first | rfl | (simp; done), Vl.btr HS2.out.l hb⟩
      · have hy := Ky.cmpS_both HG.out.1 HG.out.2.1 HG.out.2.2.1 HG.out.2.2.2
        rw [HZ.out, if_neg h0] at hy
        have hn1 : (z == 0) = false := by simp [h0]
        have hn2 : (z != 0) = true := by simp [h0]
        by_cases s1 : (Ky.keyB a).size ≤ (Ky.keyB b).size
        · have d1 : decide (((Ky.keyB a).size : Int) ≤ ((Ky.keyB b).size : Int)) = true := decide_eq_true (by omega)
          have e1 : decide (Vl.cmpS ((Ky.keyB b).extract 0 (Ky.keyB a).size) (Ky.keyB a) = 0) = false := decide_eq_false (Ky.pre_ne HG.out.1 HG.out.2.1 (by rw [HZ.out]; exact h0) s1)
          by_cases s2 : (Ky.keyB b).size ≤ (Ky.keyB a).size
          · have d2 : decide (((Ky.keyB b).size : Int) ≤ ((Ky.keyB a).size : Int)) = true := decide_eq_true (by omega)
            have e2 : decide (Vl.cmpS ((Ky.keyB a).extract 0 (Ky.keyB b).size) (Ky.keyB b) = 0) = false := decide_eq_false (Ky.pre_ne HG.out.2.1 HG.out.1 (Ky.turn_ne HG.out.1 HG.out.2.1 (by rw [HZ.out]; exact h0)) s2)
            go_wp2_with fail
            go_quiet (fail)
            all_goals
              go_wp2_with fail
              refine (wakes_any _ (HS1.out.drewN _).m).mono ?_
              rintro e w' ⟨rfl, hb⟩
              go_wp2_with fail
              go_ret
              exact ⟨by first | rfl | (simp; done), Vl.btr (HS1.out.drewN _).l hb⟩
          · have d2 : decide (((Ky.keyB b).size : Int) ≤ ((Ky.keyB a).size : Int)) = false := decide_eq_false (by omega)
            go_wp2_with fail
            go_quiet (fail)
            all_goals
              go_wp2_with fail
              refine (wakes_any _ (HS1.out.drewN _).m).mono ?_
              rintro e w' ⟨rfl, hb⟩
              go_wp2_with fail
              go_ret
              exact ⟨by first | rfl | (simp; done), Vl.btr (HS1.out.drewN _).l hb⟩
        · have d1 : decide (((Ky.keyB a).size : Int) ≤ ((Ky.keyB b).size : Int)) = false := decide_eq_false (by omega)
          have s2 : (Ky.keyB b).size ≤ (Ky.keyB a).size := by omega
          have d2 : decide (((Ky.keyB b).size : Int) ≤ ((Ky.keyB a).size : Int)) = true := decide_eq_true (by omega)
          have e2 : decide (Vl.cmpS ((Ky.keyB a).extract 0 (Ky.keyB b).size) (Ky.keyB b) = 0) = false := decide_eq_false (Ky.pre_ne HG.out.2.1 HG.out.1 (Ky.turn_ne HG.out.1 HG.out.2.1 (by rw [HZ.out]; exact h0)) s2)
          go_wp2_with fail
          go_quiet (fail)
          all_goals
            go_wp2_with fail
            refine (wakes_any _ (HS1.out.drewN _).m).mono ?_
            rintro e w' ⟨rfl, hb⟩
            go_wp2_with fail
            go_ret
            exact ⟨by first | rfl | (simp; done), Vl.btr (HS1.out.drewN _).l hb⟩
end Go.Proofs.YtlafccdaplgfoaaDoor
