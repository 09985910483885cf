/- The reference's Insert. -/
import Derived.Test.YtjnaafgiokdcbaaGreatDoorGK
import Derived.Deep.CutRange
set_option maxRecDepth 100000
namespace Go.Proofs.YtjnaafgiokdcbaaGreatDoor
open Go.RowKit

set_option maxRecDepth 100000 in
set_option maxHeartbeats 8000000 in
theorem refIns_stay {w : World} {base p r c : Nat} {kf : Nat → Value} {s : Lf.S} (H : Hid (Lf.Rm w base p r c kf s)) (hI : Hid (Lf.Inv s)) (hbase : Hid (base ≤ w.heap.size)) (hn : s.pgs.length ≤ 100000) {k : ByteArray} {L R : List Lf.Pg} {P : Lf.Pg} (hs : Hid (Lf.Spl s k L P R)) {A B : List ByteArray} (hk : Hid (Lf.Kp P.ks k A B)) (hb : Hid (B.head? ≠ some k)) (hz : k.size ≤ 1024) (hf : Hid ((A ++ k :: B).length ≤ s.fan)) :
    Calls Tryz.prog 35 #[.pointer (some ⟨p, 0, none⟩), .string k] w fun e w' => ∃ s' l f t, e = .returned (.agg #[.int .i64 ((l : Nat) : Int), .int .i64 ((f : Nat) : Int), .int .i64 ((t : Nat) : Int), .int .i64 0]) ∧ Lf.InsR s k s' l f t 0 ∧ Lf.Out w base p r kf s w' s' := by
  have hkl : P.ks.length ≤ 64 := by have := (hI.out.ks P hs.out.mem).2.2; have := hI.out.f2; omega
  obtain ⟨w1, hw1⟩ : ∃ w1, w.alloc (.cells #[.int .i64 0, .int .i64 0, .int .i64 0, .int .i64 0] 42) = w1 := ⟨_, rfl⟩
  have HB1 : Hid (Below w.heap.size w w1) := Mm.hid (by rw [← hw1]; exact (Below.refl _ _).alloc (Nat.le_refl _) _)
  have HX1 : Hid (w1.heap[w.heap.size]? = some (.cells #[.int .i64 0, .int .i64 0, .int .i64 0, .int .i64 0] 42 (0, 0))) := Mm.hid (by rw [← hw1]; exact Mm.newAt _ _ rfl)
  have hno : Lf.inKs P.ks k = false := by
    cases h9 : Lf.inKs P.ks k with
    | false => rfl
    | true => exact absurd ((hk.out.mem (hI.out.ks P hs.out.mem).1).1 (Lf.inKs_iff.1 h9)) hb.out
  have hhas := refHas_any (Mm.hid (H.out.below HB1.out).rd) hs hn (by omega)
  rw [hno] at hhas
  have HHAS := Mm.hid hhas
  clear hhas hno
  have hz' : ¬ ((1024 : Int) < (k.size : Int)) := by omega
  go_enter Tryz.func35, Tryz.ntmps35
  go_wp2_with fail
  refine HHAS.out.mono ?_
  rintro e w2 ⟨rfl, hb2⟩
  clear HHAS hz'
  have HB2 : Hid (Below w.heap.size w w2) := Mm.hid (HB1.out.trans (hb2.mono HB1.out.size))
  have HX2 : Hid (w2.heap[w.heap.size]? = some (.cells #[.int .i64 0, .int .i64 0, .int .i64 0, .int .i64 0] 42 (0, 0))) := Mm.hid ((hb2.block _ (Mm.heapLt HX1.out)).trans HX1.out)
  have HM2 := Mm.hid (H.out.below HB2.out)
  clear hb2 HB1 HX1
  have HAT := Mm.hid (refAt_any (Mm.hid HM2.out.rd) hs hn)
  have hi : s.pgs[L.length]? = some P := by rw [hs.out.e]; simp
  obtain ⟨-, -, -, d3⟩ := HM2.out.rd.at_ _ P hi
  have c0 := HM2.out.rd.c0
  obtain ⟨l, hl⟩ : ∃ l, l = L.length := ⟨_, rfl⟩
  rw [← hl] at d3 HAT hi
  obtain ⟨n, hnn⟩ : ∃ n, n = s.pgs.length := ⟨_, rfl⟩
  have hln : l < n := by rw [hnn]; exact (List.getElem?_eq_some_iff.1 hi).1
  rw [← hnn] at c0 hn
  have g1 : (0 : Int) ≤ (l : Int) := by omega
  have g2 : (l : Int) < (n : Int) := by omega
  have HON := Mm.hid (HM2.out.ks P hs.out.mem).1
  obtain ⟨q, cq, ekf, hc1, hc2, hc3, hc4⟩ := HON.out.shape
  rw [Lf.strs_len] at ekf hc1
  obtain ⟨m, hm⟩ : ∃ m, m = P.ks.length := ⟨_, rfl⟩
  rw [← hm] at ekf hc1 hkl
  rw [ekf] at d3
  obtain ⟨a, ha⟩ : ∃ a, a = A.length := ⟨_, rfl⟩
  have ham : a ≤ m := by rw [ha, hm, hk.out.e, List.length_append]; omega
  have HAL : Hid (A.length = a) := Mm.hid ha.symm
  have HBL : Hid (B.length = m - a) := Mm.hid (by have h1 := congrArg List.length hk.out.e; rw [List.length_append] at h1; omega)
  have HLL := Mm.hid hl
  have HN := Mm.hid hnn
  have HM := Mm.hid hm
  have HQN : Hid (q = none → cq = 0) := Mm.hid (fun e => (hc3 e).2)
  have HSI : Hid (Lf.SIn w2 q P.ks) := Mm.hid (by
    obtain ⟨q', c', e', _, h'⟩ := Lf.own_sin HON.out
    rw [ekf] at e'
    injection e' with e1 _ _
    rw [e1]; exact h')
  have HSA : Hid (Lf.SIn w2 q A) := Mm.hid (fun j x hx => HSI.out j x (by rw [hk.out.e, List.getElem?_append_left (List.getElem?_eq_some_iff.1 hx).1]; exact hx))
  have HEK := Mm.hid ekf
  have HLN := Mm.hid hln
  clear hi hl hnn hm ha hc3 hc4 ekf
  go_wp2_with fail
  refine HAT.out.mono ?_
  rintro e w3 ⟨rfl, hw⟩
  obtain rfl := hw.symm
  clear HAT hw
  go_wp2_with fail
  clear c0 d3
  go_loopw [7] (fun vp wr => ∃ j : Nat, j ≤ a ∧ vp = .int .i64 (j : Int) ∧ Hid (wr = w2)) (fun vp _ => a - (RowKit.intOf vp).toNat)
  case atStart => exact ⟨0, Nat.zero_le _, rfl, Mm.hid rfl⟩
  case round =>
    obtain ⟨j, hj, rfl, HW⟩ := hrel
    rename World => wr
    have hw := HW.out.symm
    subst hw
    clear HW
    go_upto_region 8 with fail
    go_cut [44] from 33 to 46 (fun vt wx => vt = .bool (decide (j < a)) ∧ wx = w2)
    case first =>
      by_cases hja : j < a
      · obtain ⟨y, hy⟩ : ∃ y, A[j]? = some y := ⟨A[j]'(by rw [HAL.out]; exact hja), List.getElem?_eq_getElem _⟩
        have ee : Op.bytesLess y.toList k.toList = true := hk.out.lo y (List.mem_of_getElem? hy)
        obtain ⟨bq, oq, rfl, hbq, hcq⟩ := HSA.out j y hy
        have g3 : (0 : Int) ≤ (j : Int) := by omega
        have g4 : (j : Int) < (m : Int) := by omega
        clear hy hbq
        have HJA := Mm.hid (decide_eq_true hja)
        clear hja
        go_wp2_with fail
        go_meet
        case rel => exact ⟨congrArg Value.bool HJA.out.symm, rfl⟩
      · have hje : j = a := by omega
        subst hje
        have HJA := Mm.hid (decide_eq_false hja)
        clear hja
        by_cases hjm : j < m
        · obtain ⟨y, hy⟩ : ∃ y, B[0]? = some y := ⟨B[0]'(by rw [HBL.out]; omega), List.getElem?_eq_getElem _⟩
          have ee : Op.bytesLess y.toList k.toList = false := hk.out.hi y (List.mem_of_getElem? hy)
          obtain ⟨bq, oq, rfl, hbq, hcq⟩ := HSI.out j y (by rw [hk.out.e, ← HAL.out, List.getElem?_append_right (Nat.le_refl _), Nat.sub_self]; exact hy)
          have g3 : (0 : Int) ≤ (j : Int) := by omega
          have g4 : (j : Int) < (m : Int) := by omega
          clear hy hbq
          go_wp2_with fail
          go_meet
          case rel => exact ⟨congrArg Value.bool HJA.out.symm, rfl⟩
        · have g4 : ¬ ((j : Int) < (m : Int)) := by omega
          go_wp2_with fail
          go_meet
          case rel => exact ⟨congrArg Value.bool HJA.out.symm, rfl⟩
    case rest =>
      obtain ⟨h44, hwc⟩ := hcut
      subst h44
      have hwc' := hwc.symm
      subst hwc'
      by_cases hja : j < a
      · rw [decide_eq_true hja]
        go_wp2_with fail
        exact ⟨⟨j + 1, by omega, by go_num, by first | trivial | exact Mm.hid rfl⟩, by simp [RowKit.intOf]; omega⟩
      · have hje : a = j := by omega
        subst hje
        rw [decide_eq_false hja]
        clear hja hj
        have h3 : (0 : Int) ≤ (a : Int) := by omega
        have h4 : (a : Int) ≤ (m : Int) := by omega
        have h5 : (a : Int) ≤ (cq : Int) := by omega
        have h6 : (m : Int) ≤ (cq : Int) := by omega
        go_upto_region 10 with fail
        go_cut [6] from 47 to 58 (fun v6 wx => Hid (Mm.Own wx w2.heap.size 9 v6 (Lf.strs (A ++ k :: B)) ∧ Below w2.heap.size w2 wx))
        case first =>
          by_cases hac : a = cq
          · have hmc : a = m := by omega
            have HSB : Hid (Lf.SIn w2 q B) := Mm.hid (fun j x hx => by
              have h9 := (List.getElem?_eq_some_iff.1 hx).1
              have h10 := HBL.out
              omega)
            subst hmc
            subst hac
            refine wp_region_held_drew (S := fun _ => True) (by kernel_rfl) (trivial) (fun hH => ?_)
            refine wpAnyH_take (i := 1) (oi := ?ot1q1) (v := ?vt1q1) ?hit1q1 ?hst1q1 ?hft1q1 ?hrt1q1 ?hQt1q1 (Or.inl ⟨?hwt1q1, ?hyt1q1⟩) ?hSt1q1 ?restt1q1
            case hit1q1 => (simp; rfl)
            case hst1q1 => kernel_rfl
            case hft1q1 => kernel_rfl
            case hrt1q1 => kernel_rfl
            case hQt1q1 => exact fun _ _ _ h => h
            case hwt1q1 => rfl
            case hyt1q1 => (intro wq hSq; (try dsimp only at hSq); go_simp; (try with_reducible rfl))
            case hSt1q1 => assumption
            simp only [Act.put, List.setIfInBounds_toArray, List.set_cons_zero, List.set_cons_succ]
            refine wpAnyH_take (i := 2) (oi := ?ot2q2) (v := ?vt2q2) ?hit2q2 ?hst2q2 ?hft2q2 ?hrt2q2 ?hQt2q2 (Or.inl ⟨?hwt2q2, ?hyt2q2⟩) ?hSt2q2 ?restt2q2
            case hit2q2 => (simp; rfl)
            case hst2q2 => kernel_rfl
            case hft2q2 => kernel_rfl
            case hrt2q2 => kernel_rfl
            case hQt2q2 => exact fun _ _ _ h => h
            case hwt2q2 => rfl
            case hyt2q2 => (intro wq hSq; (try dsimp only at hSq); go_simp; (try with_reducible rfl))
            case hSt2q2 => assumption
            simp only [Act.put, List.setIfInBounds_toArray, List.set_cons_zero, List.set_cons_succ]
            refine wpAnyH_take (i := 3) (oi := ?ot3q3) (v := ?vt3q3) ?hit3q3 ?hst3q3 ?hft3q3 ?hrt3q3 ?hQt3q3 (Or.inl ⟨?hwt3q3, ?hyt3q3⟩) ?hSt3q3 ?restt3q3
            case hit3q3 => (simp; rfl)
            case hst3q3 => kernel_rfl
            case hft3q3 => kernel_rfl
            case hrt3q3 => kernel_rfl
            case hQt3q3 => exact fun _ _ _ h => h
            case hwt3q3 => rfl
            case hyt3q3 => (intro wq hSq; (try dsimp only at hSq); go_simp; (try with_reducible rfl))
            case hSt3q3 => assumption
            simp only [Act.put, List.setIfInBounds_toArray, List.set_cons_zero, List.set_cons_succ]
            refine wpAnyH_take (i := 5) (oi := ?ot4q5) (v := ?vt4q5) ?hit4q5 ?hst4q5 ?hft4q5 ?hrt4q5 ?hQt4q5 (Or.inl ⟨?hwt4q5, ?hyt4q5⟩) ?hSt4q5 ?restt4q5
            case hit4q5 => (simp; rfl)
            case hst4q5 => kernel_rfl
            case hft4q5 => kernel_rfl
            case hrt4q5 => kernel_rfl
            case hQt4q5 => exact fun _ _ _ h => h
            case hwt4q5 => rfl
            case hyt4q5 => (intro wq hSq; (try dsimp only at hSq); go_simp; (try with_reducible rfl))
            case hSt4q5 => assumption
            simp only [Act.put, List.setIfInBounds_toArray, List.set_cons_zero, List.set_cons_succ]
            refine wpAnyH_take (i := 8) (oi := ?ot5q8) (v := ?vt5q8) ?hit5q8 ?hst5q8 ?hft5q8 ?hrt5q8 ?hQt5q8 (Or.inl ⟨?hwt5q8, ?hyt5q8⟩) ?hSt5q8 ?restt5q8
            case hit5q8 => (simp; rfl)
            case hst5q8 => kernel_rfl
            case hft5q8 => kernel_rfl
            case hrt5q8 => kernel_rfl
            case hQt5q8 => exact fun _ _ _ h => h
            case hwt5q8 => rfl
            case hyt5q8 => (intro wq hSq; (try dsimp only at hSq); go_simp; (try with_reducible rfl))
            case hSt5q8 => assumption
            simp only [Act.put, List.setIfInBounds_toArray, List.set_cons_zero, List.set_cons_succ]
            refine wpAnyH_take (i := 9) (oi := ?ot6q9) (v := ?vt6q9) ?hit6q9 ?hst6q9 ?hft6q9 ?hrt6q9 ?hQt6q9 (Or.inl ⟨?hwt6q9, ?hyt6q9⟩) ?hSt6q9 ?restt6q9
            case hit6q9 => (simp; rfl)
            case hst6q9 => kernel_rfl
            case hft6q9 => kernel_rfl
            case hrt6q9 => kernel_rfl
            case hQt6q9 => exact fun _ _ _ h => h
            case hwt6q9 => rfl
            case hyt6q9 => (intro wq hSq; (try dsimp only at hSq); go_simp; (try with_reducible rfl))
            case hSt6q9 => assumption
            simp only [Act.put, List.setIfInBounds_toArray, List.set_cons_zero, List.set_cons_succ]
            refine wpAnyH_take (i := 10) (oi := ?ot7q10) (v := ?vt7q10) ?hit7q10 ?hst7q10 ?hft7q10 ?hrt7q10 ?hQt7q10 (Or.inl ⟨?hwt7q10, ?hyt7q10⟩) ?hSt7q10 ?restt7q10
            case hit7q10 => (simp; rfl)
            case hst7q10 => kernel_rfl
            case hft7q10 => kernel_rfl
            case hrt7q10 => kernel_rfl
            case hQt7q10 => exact fun _ _ _ h => h
            case hwt7q10 => rfl
            case hyt7q10 => (intro wq hSq; (try dsimp only at hSq); go_simp; (try with_reducible rfl))
            case hSt7q10 => assumption
            simp only [Act.put, List.setIfInBounds_toArray, List.set_cons_zero, List.set_cons_succ]
            refine wpAnyH_ready (rs := [0, 6]) (by kernel_rfl) (by simp) ?_
            refine AllReadyH.cons (o := ?ot8q) ?ht8q (fun K hK => ?rt8q) (AllReadyH.cons (o := ?ot9q) ?ht9q (fun K hK => ?rt9q) AllReadyH.nil)
            case ht8q => (simp; rfl)
            case ht9q => (simp; rfl)
            case rt8q =>
              go_simp
              refine hK.out _ _ (trivial) (fun hHt10q => ?_)
              clear hK K
              refine wpAnyH_ready (rs := [4, 6]) (by kernel_rfl) (by simp) ?_
              refine AllReadyH.cons (o := ?ot11q) ?ht11q (fun K hK => ?rt11q) (AllReadyH.cons (o := ?ot12q) ?ht12q (fun K hK => ?rt12q) AllReadyH.nil)
              case ht11q => (simp; rfl)
              case ht12q => (simp; rfl)
              case rt11q =>
                have ho0 : (w2.drew.alloc (.cells #[] 9)).ownsRow w2.heap.size 9 1 (.slice (some ⟨w2.heap.size, 0, none⟩) 0 0) 0 [] := World.ownsRow_made w2.drew #[] 0 (show w2.heap.size ≤ w2.drew.heap.size by simp) (Nat.zero_le _) rfl
                have ho1 := ho0
                have HO0 : Hid (Mm.Own (w2.drew.alloc (.cells #[] 9)) w2.heap.size 9 (.slice (some ⟨w2.heap.size, 0, none⟩) 0 0) (Lf.strs [])) := Mm.hid ho1
                have HGR : Hid (Below w2.heap.size w2 (w2.drew.alloc (.cells #[] 9))) := Mm.hid (((Below.refl _ w2).drew.alloc (by simp) _))
                clear ho0 ho1
                refine Lf.stepT rfl _ _ rfl w2.heap.size (w := (w2.drew.alloc (.cells #[] 9))) _ [] rfl HO0.out q a a A rfl HAL.out ((HSA.out).below HGR.out) HQN.out (by omega) (by simp) HGR.out.size ?_
                intro v1a w1a hown1 hg1 hl1
                rw [List.nil_append] at hown1
                have HO1a := Mm.hid hown1
                have HB1a : Hid (Below w2.heap.size w2 w1a) := Mm.hid (HGR.out.grown hg1 HGR.out.size (fun g hg => (Mm.Own.lt HO0.out hg).2))
                clear hown1 hg1 hl1
                refine hK.out _ _ (trivial) (fun hHt13q => ?_)
                clear hK K
                refine wpAnyH_ready (rs := [6]) (by kernel_rfl) (by simp) ?_
                refine AllReadyH.cons (o := ?ot14q) ?ht14q (fun K hK => ?rt14q) AllReadyH.nil
                case ht14q => (simp; rfl)
                case rt14q =>
                  go_simp
                  refine hK.out _ _ (trivial) (fun hHt15q => ?_)
                  clear hK K
                  refine wpAnyH_ready (rs := [7]) (by kernel_rfl) (by simp) ?_
                  refine AllReadyH.cons (o := ?ot16q) ?ht16q (fun K hK => ?rt16q) AllReadyH.nil
                  case ht16q => (simp; rfl)
                  case rt16q =>
                    have HOX : Hid (Mm.Own (w1a.alloc (.cells #[.string k] 9)) w2.heap.size 9 v1a (Lf.strs A)) := Mm.hid (HO1a.out.below ((Below.refl _ _).alloc (Nat.le_refl _) _))
                    have HGR2 : Hid (Below w2.heap.size w2 (w1a.alloc (.cells #[.string k] 9))) := Mm.hid (HB1a.out.alloc HB1a.out.size _)
                    refine Lf.step1T rfl _ _ rfl w2.heap.size (w := (w1a.alloc (.cells #[.string k] 9))) v1a A k rfl HOX.out w1a.heap.size rfl (Mm.cellOf (Mm.newAt w1a _ rfl) rfl) (by rw [HAL.out]; omega) HGR2.out.size ?_
                    intro v2a w2a hown2 hg2 hl2
                    have HO2a := Mm.hid hown2
                    have HB2a : Hid (Below w2.heap.size w2 w2a) := Mm.hid (HGR2.out.grown hg2 HGR2.out.size (fun g hg => (HOX.out.lt hg).2))
                    clear hown2 hg2 hl2
                    refine hK.out _ _ (trivial) (fun hHt17q => ?_)
                    clear hK K
                    refine wpAnyH_ready (rs := [11]) (by kernel_rfl) (by simp) ?_
                    refine AllReadyH.cons (o := ?ot18q) ?ht18q (fun K hK => ?rt18q) AllReadyH.nil
                    case ht18q => (simp; rfl)
                    case rt18q =>
                      refine Lf.stepT rfl _ _ rfl w2.heap.size (w := w2a) v2a (A ++ [k]) rfl HO2a.out q (a - a) (a - a) B (by simp [Act.eval, Act.put]; try omega) (by rw [HBL.out]) ((HSB.out).below HB2a.out) (by intro e; first | (cases e; done) | omega) (by omega) (by rw [List.length_append, HAL.out, List.length_singleton]; omega) HB2a.out.size ?_
                      intro v3a w3a hown3 hg3 hl3
                      have HO3a := Mm.hid hown3
                      have HB3a : Hid (Below w2.heap.size w2 w3a) := Mm.hid (HB2a.out.grown hg3 HB2a.out.size (fun g hg => (HO2a.out.lt hg).2))
                      clear hown3 hg3 hl3
                      refine hK.out _ _ (trivial) (fun hHt19q => ?_)
                      clear hK K
                      refine wpAnyH_take (i := 12) (oi := ?ot20q12) (v := ?vt20q12) ?hit20q12 ?hst20q12 ?hft20q12 ?hrt20q12 ?hQt20q12 (Or.inl ⟨?hwt20q12, ?hyt20q12⟩) ?hSt20q12 ?restt20q12
                      case hit20q12 => (simp; rfl)
                      case hst20q12 => kernel_rfl
                      case hft20q12 => kernel_rfl
                      case hrt20q12 => kernel_rfl
                      case hQt20q12 => exact fun _ _ _ h => h
                      case hwt20q12 => rfl
                      case hyt20q12 => (intro wq hSq; (try dsimp only at hSq); go_simp; (try with_reducible rfl))
                      case hSt20q12 => assumption
                      simp only [Act.put, List.setIfInBounds_toArray, List.set_cons_zero, List.set_cons_succ]
                      refine wpAnyH_done (by kernel_rfl) ?_ _
                      go_wp2_with fail
                      go_meet
                      case rel => exact Mm.hid ⟨by rw [show A ++ k :: B = A ++ [k] ++ B by simp]; exact HO3a.out, HB3a.out⟩
              case rt12q =>
                go_simp
                refine hK.out _ _ (trivial) (fun hHt21q => ?_)
                clear hK K
                refine wpAnyH_ready (rs := [4]) (by kernel_rfl) (by simp) ?_
                refine AllReadyH.cons (o := ?ot22q) ?ht22q (fun K hK => ?rt22q) AllReadyH.nil
                case ht22q => (simp; rfl)
                case rt22q =>
                  have ho0 : (w2.drew.alloc (.cells #[] 9)).ownsRow w2.heap.size 9 1 (.slice (some ⟨w2.heap.size, 0, none⟩) 0 0) 0 [] := World.ownsRow_made w2.drew #[] 0 (show w2.heap.size ≤ w2.drew.heap.size by simp) (Nat.zero_le _) rfl
                  have ho1 : ((w2.drew.alloc (.cells #[] 9)).alloc (.cells #[.string k] 9)).ownsRow w2.heap.size 9 1 (.slice (some ⟨w2.heap.size, 0, none⟩) 0 0) 0 [] := Mm.Own.below ho0 ((Below.refl _ _).alloc (Nat.le_refl _) _)
                  have HO0 : Hid (Mm.Own ((w2.drew.alloc (.cells #[] 9)).alloc (.cells #[.string k] 9)) w2.heap.size 9 (.slice (some ⟨w2.heap.size, 0, none⟩) 0 0) (Lf.strs [])) := Mm.hid ho1
                  have HGR : Hid (Below w2.heap.size w2 ((w2.drew.alloc (.cells #[] 9)).alloc (.cells #[.string k] 9))) := Mm.hid ((((Below.refl _ w2).drew.alloc (by simp) _).alloc (by simp) _))
                  clear ho0 ho1
                  refine Lf.stepT rfl _ _ rfl w2.heap.size (w := ((w2.drew.alloc (.cells #[] 9)).alloc (.cells #[.string k] 9))) _ [] rfl HO0.out q a a A rfl HAL.out ((HSA.out).below HGR.out) HQN.out (by omega) (by simp) HGR.out.size ?_
                  intro v1a w1a hown1 hg1 hl1
                  rw [List.nil_append] at hown1
                  have HO1a := Mm.hid hown1
                  have HB1a : Hid (Below w2.heap.size w2 w1a) := Mm.hid (HGR.out.grown hg1 HGR.out.size (fun g hg => (Mm.Own.lt HO0.out hg).2))
                  have HT1 : Hid (w1a.heap[(w2.heap.size + 1)]? = some (.cells #[.string k] 9 (0, 0))) := Mm.hid ((hg1.block (w2.heap.size + 1) (by simp; try omega) (fun e => absurd (Option.some.inj e) (by first | exact Nat.succ_ne_self _ | exact (Nat.succ_ne_self _).symm))).trans (Mm.newAt _ _ (by simp)))
                  clear hown1 hg1 hl1
                  refine hK.out _ _ (trivial) (fun hHt23q => ?_)
                  clear hK K
                  refine wpAnyH_ready (rs := [7]) (by kernel_rfl) (by simp) ?_
                  refine AllReadyH.cons (o := ?ot24q) ?ht24q (fun K hK => ?rt24q) AllReadyH.nil
                  case ht24q => (simp; rfl)
                  case rt24q =>
                    have HOX : Hid (Mm.Own w1a w2.heap.size 9 v1a (Lf.strs A)) := Mm.hid HO1a.out
                    have HGR2 : Hid (Below w2.heap.size w2 w1a) := Mm.hid HB1a.out
                    refine Lf.step1T rfl _ _ rfl w2.heap.size (w := w1a) v1a A k rfl HOX.out (w2.heap.size + 1) rfl (Mm.cellOf HT1.out rfl) (by rw [HAL.out]; omega) HGR2.out.size ?_
                    intro v2a w2a hown2 hg2 hl2
                    have HO2a := Mm.hid hown2
                    have HB2a : Hid (Below w2.heap.size w2 w2a) := Mm.hid (HGR2.out.grown hg2 HGR2.out.size (fun g hg => (HOX.out.lt hg).2))
                    clear hown2 hg2 hl2
                    refine hK.out _ _ (trivial) (fun hHt25q => ?_)
                    clear hK K
                    refine wpAnyH_ready (rs := [11]) (by kernel_rfl) (by simp) ?_
                    refine AllReadyH.cons (o := ?ot26q) ?ht26q (fun K hK => ?rt26q) AllReadyH.nil
                    case ht26q => (simp; rfl)
                    case rt26q =>
                      refine Lf.stepT rfl _ _ rfl w2.heap.size (w := w2a) v2a (A ++ [k]) rfl HO2a.out q (a - a) (a - a) B (by simp [Act.eval, Act.put]; try omega) (by rw [HBL.out]) ((HSB.out).below HB2a.out) (by intro e; first | (cases e; done) | omega) (by omega) (by rw [List.length_append, HAL.out, List.length_singleton]; omega) HB2a.out.size ?_
                      intro v3a w3a hown3 hg3 hl3
                      have HO3a := Mm.hid hown3
                      have HB3a : Hid (Below w2.heap.size w2 w3a) := Mm.hid (HB2a.out.grown hg3 HB2a.out.size (fun g hg => (HO2a.out.lt hg).2))
                      clear hown3 hg3 hl3
                      refine hK.out _ _ (trivial) (fun hHt27q => ?_)
                      clear hK K
                      refine wpAnyH_take (i := 12) (oi := ?ot28q12) (v := ?vt28q12) ?hit28q12 ?hst28q12 ?hft28q12 ?hrt28q12 ?hQt28q12 (Or.inl ⟨?hwt28q12, ?hyt28q12⟩) ?hSt28q12 ?restt28q12
                      case hit28q12 => (simp; rfl)
                      case hst28q12 => kernel_rfl
                      case hft28q12 => kernel_rfl
                      case hrt28q12 => kernel_rfl
                      case hQt28q12 => exact fun _ _ _ h => h
                      case hwt28q12 => rfl
                      case hyt28q12 => (intro wq hSq; (try dsimp only at hSq); go_simp; (try with_reducible rfl))
                      case hSt28q12 => assumption
                      simp only [Act.put, List.setIfInBounds_toArray, List.set_cons_zero, List.set_cons_succ]
                      refine wpAnyH_done (by kernel_rfl) ?_ _
                      go_wp2_with fail
                      go_meet
                      case rel => exact Mm.hid ⟨by rw [show A ++ k :: B = A ++ [k] ++ B by simp]; exact HO3a.out, HB3a.out⟩
            case rt9q =>
              go_simp
              refine hK.out _ _ (trivial) (fun hHt29q => ?_)
              clear hK K
              refine wpAnyH_ready (rs := [0]) (by kernel_rfl) (by simp) ?_
              refine AllReadyH.cons (o := ?ot30q) ?ht30q (fun K hK => ?rt30q) AllReadyH.nil
              case ht30q => (simp; rfl)
              case rt30q =>
                go_simp
                refine hK.out _ _ (trivial) (fun hHt31q => ?_)
                clear hK K
                refine wpAnyH_ready (rs := [4]) (by kernel_rfl) (by simp) ?_
                refine AllReadyH.cons (o := ?ot32q) ?ht32q (fun K hK => ?rt32q) AllReadyH.nil
                case ht32q => (simp; rfl)
                case rt32q =>
                  have ho0 : ((w2.drew.alloc (.cells #[.string k] 9)).alloc (.cells #[] 9)).ownsRow w2.heap.size 9 1 (.slice (some ⟨(w2.heap.size + 1), 0, none⟩) 0 0) 0 [] := by
                    have h0 := World.ownsRow_made (base := w2.heap.size) (e := 9) (size := 1) (w2.drew.alloc (.cells #[.string k] 9)) #[] 0 (show w2.heap.size ≤ (w2.drew.alloc (.cells #[.string k] 9)).heap.size by simp) (Nat.zero_le _) rfl
                    rw [World.size_alloc] at h0
                    exact h0
                  have ho1 := ho0
                  have HO0 : Hid (Mm.Own ((w2.drew.alloc (.cells #[.string k] 9)).alloc (.cells #[] 9)) w2.heap.size 9 (.slice (some ⟨(w2.heap.size + 1), 0, none⟩) 0 0) (Lf.strs [])) := Mm.hid ho1
                  have HGR : Hid (Below w2.heap.size w2 ((w2.drew.alloc (.cells #[.string k] 9)).alloc (.cells #[] 9))) := Mm.hid ((((Below.refl _ w2).drew.alloc (by simp) _).alloc (by simp) _))
                  clear ho0 ho1
                  refine Lf.stepT rfl _ _ rfl w2.heap.size (w := ((w2.drew.alloc (.cells #[.string k] 9)).alloc (.cells #[] 9))) _ [] rfl HO0.out q a a A rfl HAL.out ((HSA.out).below HGR.out) HQN.out (by omega) (by simp) HGR.out.size ?_
                  intro v1a w1a hown1 hg1 hl1
                  rw [List.nil_append] at hown1
                  have HO1a := Mm.hid hown1
                  have HB1a : Hid (Below w2.heap.size w2 w1a) := Mm.hid (HGR.out.grown hg1 HGR.out.size (fun g hg => (Mm.Own.lt HO0.out hg).2))
                  have HT1 : Hid (w1a.heap[w2.heap.size]? = some (.cells #[.string k] 9 (0, 0))) := Mm.hid ((hg1.block w2.heap.size (by simp; try omega) (fun e => absurd (Option.some.inj e) (by first | exact Nat.succ_ne_self _ | exact (Nat.succ_ne_self _).symm))).trans ((Mm.oldAt _ _ (by simp; try omega)).trans (Mm.newAt _ _ (by simp))))
                  clear hown1 hg1 hl1
                  refine hK.out _ _ (trivial) (fun hHt33q => ?_)
                  clear hK K
                  refine wpAnyH_ready (rs := [7]) (by kernel_rfl) (by simp) ?_
                  refine AllReadyH.cons (o := ?ot34q) ?ht34q (fun K hK => ?rt34q) AllReadyH.nil
                  case ht34q => (simp; rfl)
                  case rt34q =>
                    have HOX : Hid (Mm.Own w1a w2.heap.size 9 v1a (Lf.strs A)) := Mm.hid HO1a.out
                    have HGR2 : Hid (Below w2.heap.size w2 w1a) := Mm.hid HB1a.out
                    refine Lf.step1T rfl _ _ rfl w2.heap.size (w := w1a) v1a A k rfl HOX.out w2.heap.size rfl (Mm.cellOf HT1.out rfl) (by rw [HAL.out]; omega) HGR2.out.size ?_
                    intro v2a w2a hown2 hg2 hl2
                    have HO2a := Mm.hid hown2
                    have HB2a : Hid (Below w2.heap.size w2 w2a) := Mm.hid (HGR2.out.grown hg2 HGR2.out.size (fun g hg => (HOX.out.lt hg).2))
                    clear hown2 hg2 hl2
                    refine hK.out _ _ (trivial) (fun hHt35q => ?_)
                    clear hK K
                    refine wpAnyH_ready (rs := [11]) (by kernel_rfl) (by simp) ?_
                    refine AllReadyH.cons (o := ?ot36q) ?ht36q (fun K hK => ?rt36q) AllReadyH.nil
                    case ht36q => (simp; rfl)
                    case rt36q =>
                      refine Lf.stepT rfl _ _ rfl w2.heap.size (w := w2a) v2a (A ++ [k]) rfl HO2a.out q (a - a) (a - a) B (by simp [Act.eval, Act.put]; try omega) (by rw [HBL.out]) ((HSB.out).below HB2a.out) (by intro e; first | (cases e; done) | omega) (by omega) (by rw [List.length_append, HAL.out, List.length_singleton]; omega) HB2a.out.size ?_
                      intro v3a w3a hown3 hg3 hl3
                      have HO3a := Mm.hid hown3
                      have HB3a : Hid (Below w2.heap.size w2 w3a) := Mm.hid (HB2a.out.grown hg3 HB2a.out.size (fun g hg => (HO2a.out.lt hg).2))
                      clear hown3 hg3 hl3
                      refine hK.out _ _ (trivial) (fun hHt37q => ?_)
                      clear hK K
                      refine wpAnyH_take (i := 12) (oi := ?ot38q12) (v := ?vt38q12) ?hit38q12 ?hst38q12 ?hft38q12 ?hrt38q12 ?hQt38q12 (Or.inl ⟨?hwt38q12, ?hyt38q12⟩) ?hSt38q12 ?restt38q12
                      case hit38q12 => (simp; rfl)
                      case hst38q12 => kernel_rfl
                      case hft38q12 => kernel_rfl
                      case hrt38q12 => kernel_rfl
                      case hQt38q12 => exact fun _ _ _ h => h
                      case hwt38q12 => rfl
                      case hyt38q12 => (intro wq hSq; (try dsimp only at hSq); go_simp; (try with_reducible rfl))
                      case hSt38q12 => assumption
                      simp only [Act.put, List.setIfInBounds_toArray, List.set_cons_zero, List.set_cons_succ]
                      refine wpAnyH_done (by kernel_rfl) ?_ _
                      go_wp2_with fail
                      go_meet
                      case rel => exact Mm.hid ⟨by rw [show A ++ k :: B = A ++ [k] ++ B by simp]; exact HO3a.out, HB3a.out⟩
          · have hac2 : a < cq := by omega
            obtain ⟨g, rfl⟩ : ∃ g, q = some ⟨g, 0, none⟩ := by
              rcases HON.out.2 with ⟨e1, _⟩ | ⟨g, cap, cur, e1, _⟩
              · rw [HEK.out] at e1
                injection e1 with _ _ e1
                omega
              · rw [HEK.out] at e1
                injection e1 with e1 _ _
                exact ⟨g, e1⟩
            have HSB : Hid (Lf.SIn w2 (some ⟨g, a, none⟩) B) := Mm.hid (fun j x hx => by
              obtain ⟨b, o, e, h1, h2⟩ := HSI.out (a + j) x (by rw [hk.out.e, List.getElem?_append_right (by rw [HAL.out]; omega), HAL.out, Nat.add_sub_cancel_left]; exact hx)
              injection e with e
              injection e with e1 e2
              subst e1 e2
              exact ⟨g, a, rfl, h1, by rw [Nat.zero_add] at h2; exact h2⟩)
            have h7 : (a : Int) < (cq : Int) := by omega
            refine wp_region_held_drew (S := fun _ => True) (by kernel_rfl) (trivial) (fun hH => ?_)
            refine wpAnyH_take (i := 1) (oi := ?ou1q1) (v := ?vu1q1) ?hiu1q1 ?hsu1q1 ?hfu1q1 ?hru1q1 ?hQu1q1 (Or.inl ⟨?hwu1q1, ?hyu1q1⟩) ?hSu1q1 ?restu1q1
            case hiu1q1 => (simp; rfl)
            case hsu1q1 => kernel_rfl
            case hfu1q1 => kernel_rfl
            case hru1q1 => kernel_rfl
            case hQu1q1 => exact fun _ _ _ h => h
            case hwu1q1 => rfl
            case hyu1q1 => (intro wq hSq; (try dsimp only at hSq); go_simp; (try with_reducible rfl))
            case hSu1q1 => assumption
            simp only [Act.put, List.setIfInBounds_toArray, List.set_cons_zero, List.set_cons_succ]
            refine wpAnyH_take (i := 2) (oi := ?ou2q2) (v := ?vu2q2) ?hiu2q2 ?hsu2q2 ?hfu2q2 ?hru2q2 ?hQu2q2 (Or.inl ⟨?hwu2q2, ?hyu2q2⟩) ?hSu2q2 ?restu2q2
            case hiu2q2 => (simp; rfl)
            case hsu2q2 => kernel_rfl
            case hfu2q2 => kernel_rfl
            case hru2q2 => kernel_rfl
            case hQu2q2 => exact fun _ _ _ h => h
            case hwu2q2 => rfl
            case hyu2q2 => (intro wq hSq; (try dsimp only at hSq); go_simp; (try with_reducible rfl))
            case hSu2q2 => assumption
            simp only [Act.put, List.setIfInBounds_toArray, List.set_cons_zero, List.set_cons_succ]
            refine wpAnyH_take (i := 3) (oi := ?ou3q3) (v := ?vu3q3) ?hiu3q3 ?hsu3q3 ?hfu3q3 ?hru3q3 ?hQu3q3 (Or.inl ⟨?hwu3q3, ?hyu3q3⟩) ?hSu3q3 ?restu3q3
            case hiu3q3 => (simp; rfl)
            case hsu3q3 => kernel_rfl
            case hfu3q3 => kernel_rfl
            case hru3q3 => kernel_rfl
            case hQu3q3 => exact fun _ _ _ h => h
            case hwu3q3 => rfl
            case hyu3q3 => (intro wq hSq; (try dsimp only at hSq); go_simp; (try with_reducible rfl))
            case hSu3q3 => assumption
            simp only [Act.put, List.setIfInBounds_toArray, List.set_cons_zero, List.set_cons_succ]
            refine wpAnyH_take (i := 5) (oi := ?ou4q5) (v := ?vu4q5) ?hiu4q5 ?hsu4q5 ?hfu4q5 ?hru4q5 ?hQu4q5 (Or.inl ⟨?hwu4q5, ?hyu4q5⟩) ?hSu4q5 ?restu4q5
            case hiu4q5 => (simp; rfl)
            case hsu4q5 => kernel_rfl
            case hfu4q5 => kernel_rfl
            case hru4q5 => kernel_rfl
            case hQu4q5 => exact fun _ _ _ h => h
            case hwu4q5 => rfl
            case hyu4q5 => (intro wq hSq; (try dsimp only at hSq); go_simp; (try with_reducible rfl))
            case hSu4q5 => assumption
            simp only [Act.put, List.setIfInBounds_toArray, List.set_cons_zero, List.set_cons_succ]
            refine wpAnyH_take (i := 8) (oi := ?ou5q8) (v := ?vu5q8) ?hiu5q8 ?hsu5q8 ?hfu5q8 ?hru5q8 ?hQu5q8 (Or.inl ⟨?hwu5q8, ?hyu5q8⟩) ?hSu5q8 ?restu5q8
            case hiu5q8 => (simp; rfl)
            case hsu5q8 => kernel_rfl
            case hfu5q8 => kernel_rfl
            case hru5q8 => kernel_rfl
            case hQu5q8 => exact fun _ _ _ h => h
            case hwu5q8 => rfl
            case hyu5q8 => (intro wq hSq; (try dsimp only at hSq); go_simp; (try with_reducible rfl))
            case hSu5q8 => assumption
            simp only [Act.put, List.setIfInBounds_toArray, List.set_cons_zero, List.set_cons_succ]
            refine wpAnyH_take (i := 9) (oi := ?ou6q9) (v := ?vu6q9) ?hiu6q9 ?hsu6q9 ?hfu6q9 ?hru6q9 ?hQu6q9 (Or.inl ⟨?hwu6q9, ?hyu6q9⟩) ?hSu6q9 ?restu6q9
            case hiu6q9 => (simp; rfl)
            case hsu6q9 => kernel_rfl
            case hfu6q9 => kernel_rfl
            case hru6q9 => kernel_rfl
            case hQu6q9 => exact fun _ _ _ h => h
            case hwu6q9 => rfl
            case hyu6q9 => (intro wq hSq; (try dsimp only at hSq); go_simp; (try with_reducible rfl))
            case hSu6q9 => assumption
            simp only [Act.put, List.setIfInBounds_toArray, List.set_cons_zero, List.set_cons_succ]
            refine wpAnyH_take (i := 10) (oi := ?ou7q10) (v := ?vu7q10) ?hiu7q10 ?hsu7q10 ?hfu7q10 ?hru7q10 ?hQu7q10 (Or.inl ⟨?hwu7q10, ?hyu7q10⟩) ?hSu7q10 ?restu7q10
            case hiu7q10 => (simp; rfl)
            case hsu7q10 => kernel_rfl
            case hfu7q10 => kernel_rfl
            case hru7q10 => kernel_rfl
            case hQu7q10 => exact fun _ _ _ h => h
            case hwu7q10 => rfl
            case hyu7q10 => (intro wq hSq; (try dsimp only at hSq); go_simp; (try with_reducible rfl))
            case hSu7q10 => assumption
            simp only [Act.put, List.setIfInBounds_toArray, List.set_cons_zero, List.set_cons_succ]
            refine wpAnyH_ready (rs := [0, 6]) (by kernel_rfl) (by simp) ?_
            refine AllReadyH.cons (o := ?ou8q) ?hu8q (fun K hK => ?ru8q) (AllReadyH.cons (o := ?ou9q) ?hu9q (fun K hK => ?ru9q) AllReadyH.nil)
            case hu8q => (simp; rfl)
            case hu9q => (simp; rfl)
            case ru8q =>
              go_simp
              refine hK.out _ _ (trivial) (fun hHu10q => ?_)
              clear hK K
              refine wpAnyH_ready (rs := [4, 6]) (by kernel_rfl) (by simp) ?_
              refine AllReadyH.cons (o := ?ou11q) ?hu11q (fun K hK => ?ru11q) (AllReadyH.cons (o := ?ou12q) ?hu12q (fun K hK => ?ru12q) AllReadyH.nil)
              case hu11q => (simp; rfl)
              case hu12q => (simp; rfl)
              case ru11q =>
                have ho0 : (w2.drew.alloc (.cells #[] 9)).ownsRow w2.heap.size 9 1 (.slice (some ⟨w2.heap.size, 0, none⟩) 0 0) 0 [] := World.ownsRow_made w2.drew #[] 0 (show w2.heap.size ≤ w2.drew.heap.size by simp) (Nat.zero_le _) rfl
                have ho1 := ho0
                have HO0 : Hid (Mm.Own (w2.drew.alloc (.cells #[] 9)) w2.heap.size 9 (.slice (some ⟨w2.heap.size, 0, none⟩) 0 0) (Lf.strs [])) := Mm.hid ho1
                have HGR : Hid (Below w2.heap.size w2 (w2.drew.alloc (.cells #[] 9))) := Mm.hid (((Below.refl _ w2).drew.alloc (by simp) _))
                clear ho0 ho1
                refine Lf.stepT rfl _ _ rfl w2.heap.size (w := (w2.drew.alloc (.cells #[] 9))) _ [] rfl HO0.out (some ⟨g, 0, none⟩) a cq A rfl HAL.out ((HSA.out).below HGR.out) HQN.out (by omega) (by simp) HGR.out.size ?_
                intro v1a w1a hown1 hg1 hl1
                rw [List.nil_append] at hown1
                have HO1a := Mm.hid hown1
                have HB1a : Hid (Below w2.heap.size w2 w1a) := Mm.hid (HGR.out.grown hg1 HGR.out.size (fun g hg => (Mm.Own.lt HO0.out hg).2))
                clear hown1 hg1 hl1
                refine hK.out _ _ (trivial) (fun hHu13q => ?_)
                clear hK K
                refine wpAnyH_ready (rs := [6]) (by kernel_rfl) (by simp) ?_
                refine AllReadyH.cons (o := ?ou14q) ?hu14q (fun K hK => ?ru14q) AllReadyH.nil
                case hu14q => (simp; rfl)
                case ru14q =>
                  go_simp
                  refine hK.out _ _ (trivial) (fun hHu15q => ?_)
                  clear hK K
                  refine wpAnyH_ready (rs := [7]) (by kernel_rfl) (by simp) ?_
                  refine AllReadyH.cons (o := ?ou16q) ?hu16q (fun K hK => ?ru16q) AllReadyH.nil
                  case hu16q => (simp; rfl)
                  case ru16q =>
                    have HOX : Hid (Mm.Own (w1a.alloc (.cells #[.string k] 9)) w2.heap.size 9 v1a (Lf.strs A)) := Mm.hid (HO1a.out.below ((Below.refl _ _).alloc (Nat.le_refl _) _))
                    have HGR2 : Hid (Below w2.heap.size w2 (w1a.alloc (.cells #[.string k] 9))) := Mm.hid (HB1a.out.alloc HB1a.out.size _)
                    refine Lf.step1T rfl _ _ rfl w2.heap.size (w := (w1a.alloc (.cells #[.string k] 9))) v1a A k rfl HOX.out w1a.heap.size rfl (Mm.cellOf (Mm.newAt w1a _ rfl) rfl) (by rw [HAL.out]; omega) HGR2.out.size ?_
                    intro v2a w2a hown2 hg2 hl2
                    have HO2a := Mm.hid hown2
                    have HB2a : Hid (Below w2.heap.size w2 w2a) := Mm.hid (HGR2.out.grown hg2 HGR2.out.size (fun g hg => (HOX.out.lt hg).2))
                    clear hown2 hg2 hl2
                    refine hK.out _ _ (trivial) (fun hHu17q => ?_)
                    clear hK K
                    refine wpAnyH_ready (rs := [11]) (by kernel_rfl) (by simp) ?_
                    refine AllReadyH.cons (o := ?ou18q) ?hu18q (fun K hK => ?ru18q) AllReadyH.nil
                    case hu18q => (simp; rfl)
                    case ru18q =>
                      refine Lf.stepT rfl _ _ rfl w2.heap.size (w := w2a) v2a (A ++ [k]) rfl HO2a.out (some ⟨g, a, none⟩) (m - a) (cq - a) B (by simp [Act.eval, Act.put]; try omega) (by rw [HBL.out]) ((HSB.out).below HB2a.out) (by intro e; first | (cases e; done) | omega) (by omega) (by rw [List.length_append, HAL.out, List.length_singleton]; omega) HB2a.out.size ?_
                      intro v3a w3a hown3 hg3 hl3
                      have HO3a := Mm.hid hown3
                      have HB3a : Hid (Below w2.heap.size w2 w3a) := Mm.hid (HB2a.out.grown hg3 HB2a.out.size (fun g hg => (HO2a.out.lt hg).2))
                      clear hown3 hg3 hl3
                      refine hK.out _ _ (trivial) (fun hHu19q => ?_)
                      clear hK K
                      refine wpAnyH_take (i := 12) (oi := ?ou20q12) (v := ?vu20q12) ?hiu20q12 ?hsu20q12 ?hfu20q12 ?hru20q12 ?hQu20q12 (Or.inl ⟨?hwu20q12, ?hyu20q12⟩) ?hSu20q12 ?restu20q12
                      case hiu20q12 => (simp; rfl)
                      case hsu20q12 => kernel_rfl
                      case hfu20q12 => kernel_rfl
                      case hru20q12 => kernel_rfl
                      case hQu20q12 => exact fun _ _ _ h => h
                      case hwu20q12 => rfl
                      case hyu20q12 => (intro wq hSq; (try dsimp only at hSq); go_simp; (try with_reducible rfl))
                      case hSu20q12 => assumption
                      simp only [Act.put, List.setIfInBounds_toArray, List.set_cons_zero, List.set_cons_succ]
                      refine wpAnyH_done (by kernel_rfl) ?_ _
                      go_wp2_with fail
                      go_meet
                      case rel => exact Mm.hid ⟨by rw [show A ++ k :: B = A ++ [k] ++ B by simp]; exact HO3a.out, HB3a.out⟩
              case ru12q =>
                go_simp
                refine hK.out _ _ (trivial) (fun hHu21q => ?_)
                clear hK K
                refine wpAnyH_ready (rs := [4]) (by kernel_rfl) (by simp) ?_
                refine AllReadyH.cons (o := ?ou22q) ?hu22q (fun K hK => ?ru22q) AllReadyH.nil
                case hu22q => (simp; rfl)
                case ru22q =>
                  have ho0 : (w2.drew.alloc (.cells #[] 9)).ownsRow w2.heap.size 9 1 (.slice (some ⟨w2.heap.size, 0, none⟩) 0 0) 0 [] := World.ownsRow_made w2.drew #[] 0 (show w2.heap.size ≤ w2.drew.heap.size by simp) (Nat.zero_le _) rfl
                  have ho1 : ((w2.drew.alloc (.cells #[] 9)).alloc (.cells #[.string k] 9)).ownsRow w2.heap.size 9 1 (.slice (some ⟨w2.heap.size, 0, none⟩) 0 0) 0 [] := Mm.Own.below ho0 ((Below.refl _ _).alloc (Nat.le_refl _) _)
                  have HO0 : Hid (Mm.Own ((w2.drew.alloc (.cells #[] 9)).alloc (.cells #[.string k] 9)) w2.heap.size 9 (.slice (some ⟨w2.heap.size, 0, none⟩) 0 0) (Lf.strs [])) := Mm.hid ho1
                  have HGR : Hid (Below w2.heap.size w2 ((w2.drew.alloc (.cells #[] 9)).alloc (.cells #[.string k] 9))) := Mm.hid ((((Below.refl _ w2).drew.alloc (by simp) _).alloc (by simp) _))
                  clear ho0 ho1
                  refine Lf.stepT rfl _ _ rfl w2.heap.size (w := ((w2.drew.alloc (.cells #[] 9)).alloc (.cells #[.string k] 9))) _ [] rfl HO0.out (some ⟨g, 0, none⟩) a cq A rfl HAL.out ((HSA.out).below HGR.out) HQN.out (by omega) (by simp) HGR.out.size ?_
                  intro v1a w1a hown1 hg1 hl1
                  rw [List.nil_append] at hown1
                  have HO1a := Mm.hid hown1
                  have HB1a : Hid (Below w2.heap.size w2 w1a) := Mm.hid (HGR.out.grown hg1 HGR.out.size (fun g hg => (Mm.Own.lt HO0.out hg).2))
                  have HT1 : Hid (w1a.heap[(w2.heap.size + 1)]? = some (.cells #[.string k] 9 (0, 0))) := Mm.hid ((hg1.block (w2.heap.size + 1) (by simp; try omega) (fun e => absurd (Option.some.inj e) (by first | exact Nat.succ_ne_self _ | exact (Nat.succ_ne_self _).symm))).trans (Mm.newAt _ _ (by simp)))
                  clear hown1 hg1 hl1
                  refine hK.out _ _ (trivial) (fun hHu23q => ?_)
                  clear hK K
                  refine wpAnyH_ready (rs := [7]) (by kernel_rfl) (by simp) ?_
                  refine AllReadyH.cons (o := ?ou24q) ?hu24q (fun K hK => ?ru24q) AllReadyH.nil
                  case hu24q => (simp; rfl)
                  case ru24q =>
                    have HOX : Hid (Mm.Own w1a w2.heap.size 9 v1a (Lf.strs A)) := Mm.hid HO1a.out
                    have HGR2 : Hid (Below w2.heap.size w2 w1a) := Mm.hid HB1a.out
                    refine Lf.step1T rfl _ _ rfl w2.heap.size (w := w1a) v1a A k rfl HOX.out (w2.heap.size + 1) rfl (Mm.cellOf HT1.out rfl) (by rw [HAL.out]; omega) HGR2.out.size ?_
                    intro v2a w2a hown2 hg2 hl2
                    have HO2a := Mm.hid hown2
                    have HB2a : Hid (Below w2.heap.size w2 w2a) := Mm.hid (HGR2.out.grown hg2 HGR2.out.size (fun g hg => (HOX.out.lt hg).2))
                    clear hown2 hg2 hl2
                    refine hK.out _ _ (trivial) (fun hHu25q => ?_)
                    clear hK K
                    refine wpAnyH_ready (rs := [11]) (by kernel_rfl) (by simp) ?_
                    refine AllReadyH.cons (o := ?ou26q) ?hu26q (fun K hK => ?ru26q) AllReadyH.nil
                    case hu26q => (simp; rfl)
                    case ru26q =>
                      refine Lf.stepT rfl _ _ rfl w2.heap.size (w := w2a) v2a (A ++ [k]) rfl HO2a.out (some ⟨g, a, none⟩) (m - a) (cq - a) B (by simp [Act.eval, Act.put]; try omega) (by rw [HBL.out]) ((HSB.out).below HB2a.out) (by intro e; first | (cases e; done) | omega) (by omega) (by rw [List.length_append, HAL.out, List.length_singleton]; omega) HB2a.out.size ?_
                      intro v3a w3a hown3 hg3 hl3
                      have HO3a := Mm.hid hown3
                      have HB3a : Hid (Below w2.heap.size w2 w3a) := Mm.hid (HB2a.out.grown hg3 HB2a.out.size (fun g hg => (HO2a.out.lt hg).2))
                      clear hown3 hg3 hl3
                      refine hK.out _ _ (trivial) (fun hHu27q => ?_)
                      clear hK K
                      refine wpAnyH_take (i := 12) (oi := ?ou28q12) (v := ?vu28q12) ?hiu28q12 ?hsu28q12 ?hfu28q12 ?hru28q12 ?hQu28q12 (Or.inl ⟨?hwu28q12, ?hyu28q12⟩) ?hSu28q12 ?restu28q12
                      case hiu28q12 => (simp; rfl)
                      case hsu28q12 => kernel_rfl
                      case hfu28q12 => kernel_rfl
                      case hru28q12 => kernel_rfl
                      case hQu28q12 => exact fun _ _ _ h => h
                      case hwu28q12 => rfl
                      case hyu28q12 => (intro wq hSq; (try dsimp only at hSq); go_simp; (try with_reducible rfl))
                      case hSu28q12 => assumption
                      simp only [Act.put, List.setIfInBounds_toArray, List.set_cons_zero, List.set_cons_succ]
                      refine wpAnyH_done (by kernel_rfl) ?_ _
                      go_wp2_with fail
                      go_meet
                      case rel => exact Mm.hid ⟨by rw [show A ++ k :: B = A ++ [k] ++ B by simp]; exact HO3a.out, HB3a.out⟩
            case ru9q =>
              go_simp
              refine hK.out _ _ (trivial) (fun hHu29q => ?_)
              clear hK K
              refine wpAnyH_ready (rs := [0]) (by kernel_rfl) (by simp) ?_
              refine AllReadyH.cons (o := ?ou30q) ?hu30q (fun K hK => ?ru30q) AllReadyH.nil
              case hu30q => (simp; rfl)
              case ru30q =>
                go_simp
                refine hK.out _ _ (trivial) (fun hHu31q => ?_)
                clear hK K
                refine wpAnyH_ready (rs := [4]) (by kernel_rfl) (by simp) ?_
                refine AllReadyH.cons (o := ?ou32q) ?hu32q (fun K hK => ?ru32q) AllReadyH.nil
                case hu32q => (simp; rfl)
                case ru32q =>
                  have ho0 : ((w2.drew.alloc (.cells #[.string k] 9)).alloc (.cells #[] 9)).ownsRow w2.heap.size 9 1 (.slice (some ⟨(w2.heap.size + 1), 0, none⟩) 0 0) 0 [] := by
                    have h0 := World.ownsRow_made (base := w2.heap.size) (e := 9) (size := 1) (w2.drew.alloc (.cells #[.string k] 9)) #[] 0 (show w2.heap.size ≤ (w2.drew.alloc (.cells #[.string k] 9)).heap.size by simp) (Nat.zero_le _) rfl
                    rw [World.size_alloc] at h0
                    exact h0
                  have ho1 := ho0
                  have HO0 : Hid (Mm.Own ((w2.drew.alloc (.cells #[.string k] 9)).alloc (.cells #[] 9)) w2.heap.size 9 (.slice (some ⟨(w2.heap.size + 1), 0, none⟩) 0 0) (Lf.strs [])) := Mm.hid ho1
                  have HGR : Hid (Below w2.heap.size w2 ((w2.drew.alloc (.cells #[.string k] 9)).alloc (.cells #[] 9))) := Mm.hid ((((Below.refl _ w2).drew.alloc (by simp) _).alloc (by simp) _))
                  clear ho0 ho1
                  refine Lf.stepT rfl _ _ rfl w2.heap.size (w := ((w2.drew.alloc (.cells #[.string k] 9)).alloc (.cells #[] 9))) _ [] rfl HO0.out (some ⟨g, 0, none⟩) a cq A rfl HAL.out ((HSA.out).below HGR.out) HQN.out (by omega) (by simp) HGR.out.size ?_
                  intro v1a w1a hown1 hg1 hl1
                  rw [List.nil_append] at hown1
                  have HO1a := Mm.hid hown1
                  have HB1a : Hid (Below w2.heap.size w2 w1a) := Mm.hid (HGR.out.grown hg1 HGR.out.size (fun g hg => (Mm.Own.lt HO0.out hg).2))
                  have HT1 : Hid (w1a.heap[w2.heap.size]? = some (.cells #[.string k] 9 (0, 0))) := Mm.hid ((hg1.block w2.heap.size (by simp; try omega) (fun e => absurd (Option.some.inj e) (by first | exact Nat.succ_ne_self _ | exact (Nat.succ_ne_self _).symm))).trans ((Mm.oldAt _ _ (by simp; try omega)).trans (Mm.newAt _ _ (by simp))))
                  clear hown1 hg1 hl1
                  refine hK.out _ _ (trivial) (fun hHu33q => ?_)
                  clear hK K
                  refine wpAnyH_ready (rs := [7]) (by kernel_rfl) (by simp) ?_
                  refine AllReadyH.cons (o := ?ou34q) ?hu34q (fun K hK => ?ru34q) AllReadyH.nil
                  case hu34q => (simp; rfl)
                  case ru34q =>
                    have HOX : Hid (Mm.Own w1a w2.heap.size 9 v1a (Lf.strs A)) := Mm.hid HO1a.out
                    have HGR2 : Hid (Below w2.heap.size w2 w1a) := Mm.hid HB1a.out
                    refine Lf.step1T rfl _ _ rfl w2.heap.size (w := w1a) v1a A k rfl HOX.out w2.heap.size rfl (Mm.cellOf HT1.out rfl) (by rw [HAL.out]; omega) HGR2.out.size ?_
                    intro v2a w2a hown2 hg2 hl2
                    have HO2a := Mm.hid hown2
                    have HB2a : Hid (Below w2.heap.size w2 w2a) := Mm.hid (HGR2.out.grown hg2 HGR2.out.size (fun g hg => (HOX.out.lt hg).2))
                    clear hown2 hg2 hl2
                    refine hK.out _ _ (trivial) (fun hHu35q => ?_)
                    clear hK K
                    refine wpAnyH_ready (rs := [11]) (by kernel_rfl) (by simp) ?_
                    refine AllReadyH.cons (o := ?ou36q) ?hu36q (fun K hK => ?ru36q) AllReadyH.nil
                    case hu36q => (simp; rfl)
                    case ru36q =>
                      refine Lf.stepT rfl _ _ rfl w2.heap.size (w := w2a) v2a (A ++ [k]) rfl HO2a.out (some ⟨g, a, none⟩) (m - a) (cq - a) B (by simp [Act.eval, Act.put]; try omega) (by rw [HBL.out]) ((HSB.out).below HB2a.out) (by intro e; first | (cases e; done) | omega) (by omega) (by rw [List.length_append, HAL.out, List.length_singleton]; omega) HB2a.out.size ?_
                      intro v3a w3a hown3 hg3 hl3
                      have HO3a := Mm.hid hown3
                      have HB3a : Hid (Below w2.heap.size w2 w3a) := Mm.hid (HB2a.out.grown hg3 HB2a.out.size (fun g hg => (HO2a.out.lt hg).2))
                      clear hown3 hg3 hl3
                      refine hK.out _ _ (trivial) (fun hHu37q => ?_)
                      clear hK K
                      refine wpAnyH_take (i := 12) (oi := ?ou38q12) (v := ?vu38q12) ?hiu38q12 ?hsu38q12 ?hfu38q12 ?hru38q12 ?hQu38q12 (Or.inl ⟨?hwu38q12, ?hyu38q12⟩) ?hSu38q12 ?restu38q12
                      case hiu38q12 => (simp; rfl)
                      case hsu38q12 => kernel_rfl
                      case hfu38q12 => kernel_rfl
                      case hru38q12 => kernel_rfl
                      case hQu38q12 => exact fun _ _ _ h => h
                      case hwu38q12 => rfl
                      case hyu38q12 => (intro wq hSq; (try dsimp only at hSq); go_simp; (try with_reducible rfl))
                      case hSu38q12 => assumption
                      simp only [Act.put, List.setIfInBounds_toArray, List.set_cons_zero, List.set_cons_succ]
                      refine wpAnyH_done (by kernel_rfl) ?_ _
                      go_wp2_with fail
                      go_meet
                      case rel => exact Mm.hid ⟨by rw [show A ++ k :: B = A ++ [k] ++ B by simp]; exact HO3a.out, HB3a.out⟩
        case rest =>
          rename World => w6
          have HO6 := Mm.hid hcut.out.1
          have HB6 := Mm.hid hcut.out.2
          clear hcut
          obtain ⟨g6, n6, c6, e6, hn6, hc6⟩ := HO6.out.nonnil (by simp [Lf.strs])
          subst e6
          rw [Lf.strs_len] at hn6
          have hn6' : n6 = m + 1 := by
            rw [hn6, List.length_append, List.length_cons, HAL.out, HBL.out]
            omega
          have HN6 := Mm.hid hn6
          have HNM := Mm.hid hn6'
          clear hn6'
          have HBW6 : Hid (Below w.heap.size w w6) := Mm.hid (HB2.out.trans (HB6.out.mono HB2.out.size))
          have HM6 := Mm.hid (HM2.out.below HB6.out)
          have HX6 : Hid (w6.heap[w.heap.size]? = some (.cells #[.int .i64 0, .int .i64 0, .int .i64 0, .int .i64 0] 42 (0, 0))) := Mm.hid ((HB6.out.block _ (Mm.heapLt HX2.out)).trans HX2.out)
          have hi : s.pgs[l]? = some P := by rw [hs.out.e, HLL.out]; simp
          have HIX := Mm.hid hi
          obtain ⟨d0, -, -, -⟩ := HM6.out.rd.at_ _ P hi
          have c0 := HM6.out.rd.c0
          rw [← HN.out] at c0
          clear hn6 hi h3 h4 h5 h6 hwc
          go_upto_region 11 with fail
          go_cut [8] from 59 to 67 (fun v8 wx => v8 = .pointer (some ⟨w6.heap.size, 0, none⟩) ∧ wx = w6.alloc (.cells #[.int .i64 (P.n : Int), .int .i64 0, .int .i64 0, .int .i64 0] 42))
          case first =>
            go_wp2_with fail
            go_meet
            case rel => exact ⟨rfl, rfl⟩
          case rest =>
            obtain ⟨h8, hwx⟩ := hcut
            subst h8
            rename World => w7
            have HB7 : Hid (Below w6.heap.size w6 w7) := Mm.hid (by rw [hwx]; exact (Below.refl _ _).alloc (Nat.le_refl _) _)
            have HX7 : Hid (w7.heap[w6.heap.size]? = some (.cells #[.int .i64 (P.n : Int), .int .i64 0, .int .i64 0, .int .i64 0] 42 (0, 0))) := Mm.hid (by rw [hwx]; exact Mm.newAt _ _ rfl)
            clear hwx
            have HM7 := Mm.hid (HM6.out.below HB7.out)
            have HO7 := Mm.hid (HO6.out.below HB7.out)
            have HX7w : Hid (w7.heap[w.heap.size]? = some (.cells #[.int .i64 0, .int .i64 0, .int .i64 0, .int .i64 0] 42 (0, 0))) := Mm.hid ((HB7.out.block _ (Mm.heapLt HX6.out)).trans HX6.out)
            have HBW7 : Hid (Below w.heap.size w w7) := Mm.hid (HBW6.out.trans (HB7.out.mono HBW6.out.size))
            have HSZ : Hid (w.heap.size < w6.heap.size) := Mm.hid (Mm.heapLt HX6.out)
            have f1 := HM7.out.rd.c1
            clear c0 d0
            have hf1 : (n6 : Int) ≤ (s.fan : Int) := by have h1 := hf.out; have h2 := HN6.out; omega
            obtain ⟨-, -, -, d3⟩ := HM7.out.rd.at_ _ P HIX.out
            have c0 := HM7.out.rd.c0
            rw [← HN.out] at c0
            have f3 : w7.frozen? ⟨r, l * 4 + 3, none⟩ = false := by
              obtain ⟨cur, h1, _⟩ := HM7.out.cells
              simp [World.frozen?, h1]
            go_upto_region 13 with fail
            go_cut [6] from 75 to 82 (fun v6 wx => v6 = .slice (some ⟨g6, 0, none⟩) n6 c6 ∧ wx = w7.setCell ⟨r, l * 4 + 3, none⟩ (.slice (some ⟨g6, 0, none⟩) n6 c6))
            case first =>
              go_wp2_with fail
              go_meet
              case rel => exact ⟨rfl, rfl⟩
            case rest =>
              obtain ⟨h9, hwx⟩ := hcut
              subst h9
              rename World => w8
              have HWX := Mm.hid hwx
              clear hwx
              clear c0 d3 f1 f3
              have hr8 : r < w.heap.size := H.out.row.1
              have HX8 : Hid (w8.heap[w6.heap.size]? = some (.cells #[.int .i64 (P.n : Int), .int .i64 0, .int .i64 0, .int .i64 0] 42 (0, 0))) := Mm.hid (by rw [HWX.out, heap_setCell_other _ _ _ _ (by have := HSZ.out; simp; omega)]; exact HX7.out)
              have HX8w : Hid (w8.heap[w.heap.size]? = some (.cells #[.int .i64 0, .int .i64 0, .int .i64 0, .int .i64 0] 42 (0, 0))) := Mm.hid (by rw [HWX.out, heap_setCell_other _ _ _ _ (by simp; omega)]; exact HX7w.out)
              have e0 : w8.cell? ⟨w6.heap.size, 0, none⟩ = some (.int .i64 (P.n : Int)) := Mm.cellOf HX8.out rfl
              have e1 : w8.cell? ⟨w6.heap.size, 1, none⟩ = some (.int .i64 0) := Mm.cellOf HX8.out rfl
              have e2 : w8.cell? ⟨w6.heap.size, 2, none⟩ = some (.int .i64 0) := Mm.cellOf HX8.out rfl
              have e3 : w8.cell? ⟨w6.heap.size, 3, none⟩ = some (.int .i64 0) := Mm.cellOf HX8.out rfl
              have f0 : w8.cell? ⟨w.heap.size, 0, none⟩ = some (.int .i64 0) := Mm.cellOf HX8w.out rfl
              have f1 : w8.cell? ⟨w.heap.size, 1, none⟩ = some (.int .i64 0) := Mm.cellOf HX8w.out rfl
              have f2 : w8.cell? ⟨w.heap.size, 2, none⟩ = some (.int .i64 0) := Mm.cellOf HX8w.out rfl
              have f3 : w8.cell? ⟨w.heap.size, 3, none⟩ = some (.int .i64 0) := Mm.cellOf HX8w.out rfl
              have r0 : w8.frozen? ⟨w.heap.size, 0, none⟩ = false := by simp [World.frozen?, HX8w.out]
              have r1 : w8.frozen? ⟨w.heap.size, 1, none⟩ = false := by simp [World.frozen?, HX8w.out]
              have r2 : w8.frozen? ⟨w.heap.size, 2, none⟩ = false := by simp [World.frozen?, HX8w.out]
              have r3 : w8.frozen? ⟨w.heap.size, 3, none⟩ = false := by simp [World.frozen?, HX8w.out]
              go_wp2_with fail
              obtain ⟨x1, x2, x3⟩ := Lf.ins_stay hs.out hf.out
              have hnr := hI.out.nd
              rw [hs.out.e] at hnr
              obtain ⟨n1, n2⟩ := Lf.nd_mid hnr
              have hnr2 : ∀ Q, Q ∈ L ∨ Q ∈ R → Q.n ≠ P.n := fun Q hQ => hQ.elim (n1 Q) (n2 Q)
              have hv2 : ∀ g, (Value.slice (some ⟨g6, 0, none⟩) n6 c6).ownBlock = some g → g ≠ p ∧ g ≠ r := fun g hg => by
                have h1 := (HO6.out.lt hg).2
                have h2 := Mm.heapLt HM2.out.head
                have h3 := HM2.out.row.1
                omega
              have hRK := HM7.out.setK (s' := Lf.insS s L P R (A ++ k :: B)) hs.out.e hnr2 (ks := A ++ k :: B) (by rw [x1]; rfl) (by rw [x1]; rfl) (by rw [x1]; rfl) (v := .slice (some ⟨g6, 0, none⟩) n6 c6) (HO7.out.base (Nat.le_trans hbase.out HB2.out.size)) hv2
              rw [← HLL.out, ← HWX.out] at hRK
              have hTC : Lf.Tc p r w w8 := by
                rw [HWX.out]
                exact (Lf.Tc.of HBW7.out).set (Or.inr (Or.inl rfl)) _ _
              have hfin := Lf.Out.fin H.out hRK hTC (fun b h => by
                rcases Lf.Rb.setK hs.out.e (by rw [x1]; rfl) hnr2 h with h | h
                · exact Or.inl h
                · have h1 := (HO6.out.lt h).2
                  have h2 := Mm.heapLt HX2.out
                  exact Or.inr (by omega)) (.int .i64 (P.n : Int)) (.int .i64 0) (.int .i64 0) (.int .i64 0)
              have hs4 := Lf.set4 (y0 := .int .i64 (P.n : Int)) (y1 := .int .i64 0) (y2 := .int .i64 0) (y3 := .int .i64 0) HX8w.out
              have hc0 := Mm.cellOf (i := 0) hs4 rfl
              have hc1 := Mm.cellOf (i := 1) hs4 rfl
              have hc2 := Mm.cellOf (i := 2) hs4 rfl
              have hc3 := Mm.cellOf (i := 3) hs4 rfl
              have hins := Lf.InsR.ok hs.out hk.out hb.out hz x3
              rw [x2] at hins
              exact bodyPost_ret (v := .agg #[.int .i64 (P.n : Int), .int .i64 0, .int .i64 0, .int .i64 0]) (by simp [results, Tryz.results35, go_sem, hc0, hc1, hc2, hc3]) rfl ⟨_, P.n, 0, 0, rfl, hins, hfin⟩

end Go.Proofs.YtjnaafgiokdcbaaGreatDoor
