/- sift, Vacuum, Copy. -/
import Derived.Test.YtoobljkjhpkghaaHa8
import Derived.WalkMore
namespace Go.Proofs.Ytoobljkjhpkghaa
open Go.RowKit

namespace Hp
/-- Does a version stay? -/
def stays (s : Cg.S) (v : Ver) : Bool := !((Cg.gt s v.xmin).st == 3) && !((Cg.gt s v.xmax).st == 2 && decide ((Cg.gt s v.xmax).csn ≤ Cg.horizon s))
def stayL (s : Cg.S) (l : List Ver) : List Ver := l.filter (stays s)
def goneL (s : Cg.S) (l : List Ver) : List Ver := l.filter (fun v => !stays s v)
theorem stayL_take {s : Cg.S} {l : List Ver} {k : Nat} {v : Ver} (h : l[k]? = some v) : stayL s (l.take (k + 1)) = stayL s (l.take k) ++ (if stays s v = true then [v] else []) := by
  unfold stayL
  rw [List.take_add_one, h, List.filter_append]
  congr 1
  by_cases e : stays s v = true
  · simp [e]
  · simp at e; simp [e]
theorem goneL_take {s : Cg.S} {l : List Ver} {k : Nat} {v : Ver} (h : l[k]? = some v) : goneL s (l.take (k + 1)) = goneL s (l.take k) ++ (if stays s v = true then [] else [v]) := by
  unfold goneL
  rw [List.take_add_one, h, List.filter_append]
  congr 1
  by_cases e : stays s v = true
  · simp [e]
  · simp at e; simp [e]
/-- Two rows of versions of one's own. -/
structure Tw (w0 wq : World) (v1 v2 : Value) (l1 l2 : List Ver) : Prop where
  o1 : wq.ownsRow w0.heap.size 100 4 v1 l1.length (cellsR l1)
  o2 : wq.ownsRow w0.heap.size 100 4 v2 l2.length (cellsR l2)
  ne : ∀ g, v1.ownBlock = some g → v2.ownBlock ≠ some g
  bel : Below w0.heap.size w0 wq
theorem Tw.start {w0 w1 : World} (h : Below w0.heap.size w0 w1) : Tw w0 w1 (.slice none 0 0) (.slice none 0 0) [] [] := ⟨⟨rfl, Or.inl ⟨rfl, rfl⟩⟩, ⟨rfl, Or.inl ⟨rfl, rfl⟩⟩, (fun _ h => nomatch h), h⟩
theorem Tw.below {w0 wq w' : World} {v1 v2 : Value} {l1 l2 : List Ver} (h : Tw w0 wq v1 v2 l1 l2) (hb : Below wq.heap.size wq w') : Tw w0 w' v1 v2 l1 l2 := ⟨Vl.own_below h.o1 hb, Vl.own_below h.o2 hb, h.ne, h.bel.trans (hb.mono h.bel.size)⟩
theorem Tw.app1 {w0 W W' : World} {v1 v2 v3 : Value} {l1 l2 : List Ver} {y : Ver} (h : Tw w0 W v1 v2 l1 l2) (ho : W'.ownsRow w0.heap.size 100 4 v3 (l1.length + 1) (cellsR l1 ++ cellsR [y])) (hg : W.grownBy W' v1.ownBlock) (hl : v3.ownBlock = v1.ownBlock ∨ ∀ g, v3.ownBlock = some g → W.heap.size ≤ g) : Tw w0 W' v3 v2 (l1 ++ [y]) l2 := by
  refine ⟨by rw [List.length_append, cellsR_app]; exact ho, ownKeep h.o2 (fun g hg2 => hg.block g (ownLt h.o2 hg2).2 (fun e => h.ne g e.symm hg2)), fun g hg3 hg2 => ?_, h.bel.grown hg h.bel.size (fun k hk => (ownLt h.o1 hk).1)⟩
  rcases hl with hl | hl
  · exact h.ne g (hl ▸ hg3) hg2
  · have := hl g hg3; have := (ownLt h.o2 hg2).2; omega
theorem Tw.app2 {w0 W W' : World} {v1 v2 v3 : Value} {l1 l2 : List Ver} {y : Ver} (h : Tw w0 W v1 v2 l1 l2) (ho : W'.ownsRow w0.heap.size 100 4 v3 (l2.length + 1) (cellsR l2 ++ cellsR [y])) (hg : W.grownBy W' v2.ownBlock) (hl : v3.ownBlock = v2.ownBlock ∨ ∀ g, v3.ownBlock = some g → W.heap.size ≤ g) : Tw w0 W' v1 v3 l1 (l2 ++ [y]) := by
  refine ⟨ownKeep h.o1 (fun g hg2 => hg.block g (ownLt h.o1 hg2).2 (fun e => h.ne g hg2 e.symm)), by rw [List.length_append, cellsR_app]; exact ho, fun g hg2 hg3 => ?_, h.bel.grown hg h.bel.size (fun k hk => (ownLt h.o2 hk).1)⟩
  rcases hl with hl | hl
  · exact h.ne g hg2 (hl ▸ hg3)
  · have := hl g hg3; have := (ownLt h.o1 hg2).2; omega
end Hp

set_option maxRecDepth 100000 in
set_option maxHeartbeats 2000000 in
theorem sift_any (w : World) (base b : Nat) (lv : Value) (r : Hp.R) (s : Cg.S) (hR : Hid (Hp.Rn w base b r)) (hI : Hid (Hp.Inv r)) (h : Hid (Mm.Lv w lv s)) (hi : Hid (Cg.Inv s)) :
    Calls Try.prog 47 #[.pointer (some ⟨b, 0, none⟩), lv] w fun e w' => ∃ v1 v2, e = .returned (.tuple #[v1, v2]) ∧ w'.ownsRow w.heap.size 100 4 v1 (Hp.stayL s r.vs).length (Hp.cellsR (Hp.stayL s r.vs)) ∧ w'.ownsRow w.heap.size 100 4 v2 (Hp.goneL s r.vs).length (Hp.cellsR (Hp.goneL s r.vs)) ∧ (∀ g, v1.ownBlock = some g → v2.ownBlock ≠ some g) ∧ Below w.heap.size w w' := by
  have hn := hi.out.le
  go_enter Try.func47, Try.ntmps47
  go_wp2_with fail
  go_step3
  go_wp2_with fail
  refine (horizon_any w lv s h hi).mono ?_
  rintro e w1 ⟨rfl, hb⟩
  obtain ⟨sv, hl⟩ := hR.out
  have HB1 := Vl.hid hb
  have HL1 := Vl.hid (h.out.below hb)
  obtain ⟨p, c, rfl, hc, hlies⟩ := Vl.lies_own hl.own
  have c0 := (hl.below hb).c0
  have hlt := Mm.heapLt (hl.below hb).blk
  have HL := Vl.hid hlies
  have hlen := hI.out.len
  obtain ⟨n, hL⟩ : ∃ n, n = r.vs.length := ⟨_, rfl⟩
  rw [← hL] at c0 hlen
  have HN := Vl.hid hL
  clear hb hl hc hlies hL
  go_wp2_with fail
  go_step3
  go_wp2_with fail
  go_loopw [4, 5, 16] (fun v1 v2 vi wq => ∃ j : Nat, j ≤ n ∧ vi = .int .i64 (j : Int) ∧ Hid (Hp.Tw w wq v1 v2 (Hp.stayL s (r.vs.take j)) (Hp.goneL s (r.vs.take j)))) (fun _ _ vi _ => n - (RowKit.intOf vi).toNat)
  case atStart => exact ⟨0, by omega, rfl, Vl.hid (Hp.Tw.start HB1.out)⟩
  case round =>
    obtain ⟨j, hj, rfl, HT⟩ := hrel
    have HC1 : Hid ((Hp.stayL s (r.vs.take j)).length < 1000000) := Vl.hid (by have := List.length_filter_le (Hp.stays s) (r.vs.take j); rw [List.length_take] at this; unfold Hp.stayL; omega)
    have HC2 : Hid ((Hp.goneL s (r.vs.take j)).length < 1000000) := Vl.hid (by have := List.length_filter_le (fun v => !Hp.stays s v) (r.vs.take j); rw [List.length_take] at this; unfold Hp.goneL; omega)
    by_cases hjm : j < n
    · obtain ⟨u, hv⟩ : ∃ u, r.vs[j]? = some u := ⟨r.vs[j]'(by rw [← HN.out]; exact hjm), List.getElem?_eq_getElem _⟩
      obtain ⟨b', o, hp, hb', d0, d1, d2, d3⟩ := Hp.liesAt (HL.out.below HT.out.bel) hv
      subst hp
      have HE : Hid (Hp.stayL s (r.vs.take (j + 1)) = Hp.stayL s (r.vs.take j) ++ (if Hp.stays s u = true then [u] else []) ∧ Hp.goneL s (r.vs.take (j + 1)) = Hp.goneL s (r.vs.take j) ++ (if Hp.stays s u = true then [] else [u])) := Vl.hid ⟨Hp.stayL_take hv, Hp.goneL_take hv⟩
      obtain ⟨k1, hk1⟩ : ∃ k, k = (Cg.gt s u.xmin).st := ⟨_, rfl⟩
      obtain ⟨k2, hk2⟩ : ∃ k, k = (Cg.gt s u.xmax).st := ⟨_, rfl⟩
      obtain ⟨k3, hk3⟩ : ∃ k, k = (Cg.gt s u.xmax).csn := ⟨_, rfl⟩
      obtain ⟨hz, hhz⟩ : ∃ z, z = Cg.horizon s := ⟨_, rfl⟩
      have HS : Hid (Hp.stays s u = (!(k1 == 3) && !(k2 == 2 && decide (k3 ≤ hz)))) := Vl.hid (by unfold Hp.stays; rw [hk1, hk2, hk3, hhz])
      have CA : Hid (∀ wz, Hid (Mm.Lv wz lv s) → Calls Try.prog 28 #[lv, .int .i64 u.xmin] wz fun e w' => e = .returned (.int .i64 (k1 : Int)) ∧ Below wz.heap.size wz w') := Vl.hid (fun wz hw => hk1 ▸ state_any wz lv s u.xmin hw hn)
      have CB : Hid (∀ wz, Hid (Mm.Lv wz lv s) → Calls Try.prog 28 #[lv, .int .i64 u.xmax] wz fun e w' => e = .returned (.int .i64 (k2 : Int)) ∧ Below wz.heap.size wz w') := Vl.hid (fun wz hw => hk2 ▸ state_any wz lv s u.xmax hw hn)
      have CC : Hid (∀ wz, Hid (Mm.Lv wz lv s) → Calls Try.prog 71 #[lv, .int .i64 u.xmax] wz fun e w' => e = .returned (.int .i64 (k3 : Int)) ∧ Below wz.heap.size wz w') := Vl.hid (fun wz hw => hk3 ▸ csn_any wz lv s u.xmax hw hn)
      rw [← hhz]
      have HT0 : Hid (Hp.Tw w (wr.alloc (.cells #[.int .i64 (u.tid : Int), .int .i64 u.xmin, .int .i64 u.xmax, .slice u.p u.xs.length u.c] 100)) u4 u5 (Hp.stayL s (r.vs.take j)) (Hp.goneL s (r.vs.take j))) := Vl.hid (HT.out.below ((Below.refl _ _).alloc (Nat.le_refl _) _))
      have HX0 : Hid (Hp.Bx (wr.alloc (.cells #[.int .i64 (u.tid : Int), .int .i64 u.xmin, .int .i64 u.xmax, .slice u.p u.xs.length u.c] 100)) wr.heap.size u) := Vl.hid (Mm.newAt wr _ rfl)
      have HV0 := Vl.hid (h.out.below HT0.out.bel)
      clear hv hk1 hk2 hk3 hhz
      have i1 : (j : Int) < (n : Int) := by omega
      have i2 : (0 : Int) ≤ (j : Int) := by omega
      go_wp2_with fail
      refine (CA.out _ HV0).mono ?_
      rintro e w2 ⟨rfl, hb⟩
      have HT1 := Vl.hid (HT0.out.below hb)
      have HX1 := Vl.hid (HX0.out.below hb)
      have HV1 := Vl.hid (h.out.below HT1.out.bel)
      have e10 := HX1.out.c0
      have e11 := HX1.out.c1
      have e12 := HX1.out.c2
      have e13 := HX1.out.c3
      have hx1 := Mm.heapLt HX1.out
      clear hb
      by_cases q1 : k1 = 3
      · have g1 : ((k1 : Int) == 3) = true := by simp; omega
        have HT1a : Hid (Hp.Tw w (w2.alloc (.cells #[.int .i64 (u.tid : Int), .int .i64 u.xmin, .int .i64 u.xmax, .slice u.p u.xs.length u.c] 100)) u4 u5 (Hp.stayL s (r.vs.take j)) (Hp.goneL s (r.vs.take j))) := Vl.hid (HT1.out.below ((Below.refl _ _).alloc (Nat.le_refl _) _))
        have HST : Hid (Hp.stays s u = false) := Vl.hid (by rw [HS.out]; simp [*])
        go_wp2_with (at_builtin; first
          | (refine Hp.appV rfl _ _ rfl w.heap.size u5 (Hp.goneL s (r.vs.take j)).length (Hp.cellsR (Hp.goneL s (r.vs.take j))) u rfl HT1a.out.o2 _ rfl (Hp.four_new w2 u _ rfl) HC2.out HT1a.out.bel.size ?_
             intro v3 w9 hown3 hg3 hloc3
             have HT9 : Hid (Hp.Tw w w9 u4 v3 (Hp.stayL s (r.vs.take (j + 1))) (Hp.goneL s (r.vs.take (j + 1)))) := Vl.hid (by rw [HE.out.1, HE.out.2, HST.out]; simpa using HT1a.out.app2 hown3 hg3 hloc3)
             clear hown3 hg3 hloc3))
        exact ⟨⟨j + 1, by omega, by go_num, HT9⟩, by simp [RowKit.intOf]; omega⟩
      · have g1 : ((k1 : Int) == 3) = false := by simp; omega
        go_wp2_with fail
        refine (CB.out _ HV1).mono ?_
        rintro e w3 ⟨rfl, hb⟩
        have HT2 := Vl.hid (HT1.out.below hb)
        have HX2 := Vl.hid (HX1.out.below hb)
        have HV2 := Vl.hid (h.out.below HT2.out.bel)
        have e20 := HX2.out.c0
        have e21 := HX2.out.c1
        have e22 := HX2.out.c2
        have e23 := HX2.out.c3
        have hx2 := Mm.heapLt HX2.out
        clear hb
        by_cases q2 : k2 = 2
        · have g2 : ((k2 : Int) == 2) = true := by simp; omega
          go_wp2_with fail
          refine (CC.out _ HV2).mono ?_
          rintro e w4 ⟨rfl, hb⟩
          have HT3 := Vl.hid (HT2.out.below hb)
          have HX3 := Vl.hid (HX2.out.below hb)
          have HV3 := Vl.hid (h.out.below HT3.out.bel)
          have e30 := HX3.out.c0
          have e31 := HX3.out.c1
          have e32 := HX3.out.c2
          have e33 := HX3.out.c3
          have hx3 := Mm.heapLt HX3.out
          clear hb
          by_cases q3 : k3 ≤ hz
          · have g3 : (k3 : Int) ≤ (hz : Int) := by omega
            have HT3a : Hid (Hp.Tw w (w4.alloc (.cells #[.int .i64 (u.tid : Int), .int .i64 u.xmin, .int .i64 u.xmax, .slice u.p u.xs.length u.c] 100)) u4 u5 (Hp.stayL s (r.vs.take j)) (Hp.goneL s (r.vs.take j))) := Vl.hid (HT3.out.below ((Below.refl _ _).alloc (Nat.le_refl _) _))
            have HST : Hid (Hp.stays s u = false) := Vl.hid (by rw [HS.out]; simp [*])
            go_wp2_with (at_builtin; first
              | (refine Hp.appV rfl _ _ rfl w.heap.size u5 (Hp.goneL s (r.vs.take j)).length (Hp.cellsR (Hp.goneL s (r.vs.take j))) u rfl HT3a.out.o2 _ rfl (Hp.four_new w4 u _ rfl) HC2.out HT3a.out.bel.size ?_
                 intro v3 w9 hown3 hg3 hloc3
                 have HT9 : Hid (Hp.Tw w w9 u4 v3 (Hp.stayL s (r.vs.take (j + 1))) (Hp.goneL s (r.vs.take (j + 1)))) := Vl.hid (by rw [HE.out.1, HE.out.2, HST.out]; simpa using HT3a.out.app2 hown3 hg3 hloc3)
                 clear hown3 hg3 hloc3))
            exact ⟨⟨j + 1, by omega, by go_num, HT9⟩, by simp [RowKit.intOf]; omega⟩
          · have g3 : ¬ (k3 : Int) ≤ (hz : Int) := by omega
            have HT3a : Hid (Hp.Tw w (w4.alloc (.cells #[.int .i64 (u.tid : Int), .int .i64 u.xmin, .int .i64 u.xmax, .slice u.p u.xs.length u.c] 100)) u4 u5 (Hp.stayL s (r.vs.take j)) (Hp.goneL s (r.vs.take j))) := Vl.hid (HT3.out.below ((Below.refl _ _).alloc (Nat.le_refl _) _))
            have HST : Hid (Hp.stays s u = true) := Vl.hid (by rw [HS.out]; simp [*])
            go_wp2_with (at_builtin; first
              | (refine Hp.appV rfl _ _ rfl w.heap.size u4 (Hp.stayL s (r.vs.take j)).length (Hp.cellsR (Hp.stayL s (r.vs.take j))) u rfl HT3a.out.o1 _ rfl (Hp.four_new w4 u _ rfl) HC1.out HT3a.out.bel.size ?_
                 intro v3 w9 hown3 hg3 hloc3
                 have HT9 : Hid (Hp.Tw w w9 v3 u5 (Hp.stayL s (r.vs.take (j + 1))) (Hp.goneL s (r.vs.take (j + 1)))) := Vl.hid (by rw [HE.out.1, HE.out.2, HST.out]; simpa using HT3a.out.app1 hown3 hg3 hloc3)
                 clear hown3 hg3 hloc3))
            exact ⟨⟨j + 1, by omega, by go_num, HT9⟩, by simp [RowKit.intOf]; omega⟩
        · have g2 : ((k2 : Int) == 2) = false := by simp; omega
          have HT2a : Hid (Hp.Tw w (w3.alloc (.cells #[.int .i64 (u.tid : Int), .int .i64 u.xmin, .int .i64 u.xmax, .slice u.p u.xs.length u.c] 100)) u4 u5 (Hp.stayL s (r.vs.take j)) (Hp.goneL s (r.vs.take j))) := Vl.hid (HT2.out.below ((Below.refl _ _).alloc (Nat.le_refl _) _))
          have HST : Hid (Hp.stays s u = true) := Vl.hid (by rw [HS.out]; simp [*])
          go_wp2_with (at_builtin; first
            | (refine Hp.appV rfl _ _ rfl w.heap.size u4 (Hp.stayL s (r.vs.take j)).length (Hp.cellsR (Hp.stayL s (r.vs.take j))) u rfl HT2a.out.o1 _ rfl (Hp.four_new w3 u _ rfl) HC1.out HT2a.out.bel.size ?_
               intro v3 w9 hown3 hg3 hloc3
               have HT9 : Hid (Hp.Tw w w9 v3 u5 (Hp.stayL s (r.vs.take (j + 1))) (Hp.goneL s (r.vs.take (j + 1)))) := Vl.hid (by rw [HE.out.1, HE.out.2, HST.out]; simpa using HT2a.out.app1 hown3 hg3 hloc3)
               clear hown3 hg3 hloc3))
          exact ⟨⟨j + 1, by omega, by go_num, HT9⟩, by simp [RowKit.intOf]; omega⟩
    · obtain rfl : j = n := by omega
      rw [List.take_of_length_le (by rw [← HN.out]; exact Nat.le_refl _)] at HT
      go_wp2_with fail
      rw [Exit.noGoto_ret]
      go_ret2
      exact ⟨_, _, rfl, HT.out.o1, HT.out.o2, HT.out.ne, HT.out.bel⟩
end Go.Proofs.Ytoobljkjhpkghaa
