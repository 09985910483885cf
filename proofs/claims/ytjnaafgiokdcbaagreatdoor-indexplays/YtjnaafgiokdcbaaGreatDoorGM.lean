/- The reference's Insert. -/
import Derived.Test.YtjnaafgiokdcbaaGreatDoorGK
import Derived.Deep.CutRange
set_option maxRecDepth 100000
namespace Go.Proofs.YtjnaafgiokdcbaaGreatDoor
open Go.RowKit

set_option maxRecDepth 100000 in
set_option maxHeartbeats 8000000 in
theorem refIns_part {w : World} {base p r c : Nat} {kf : Nat → Value} {s : Lf.S} (H : Hid (Lf.Rm w base p r c kf s)) (hI : Hid (Lf.Inv s)) (hbase : Hid (base ≤ w.heap.size)) (hn : s.pgs.length ≤ 100000) {k : ByteArray} {L R : List Lf.Pg} {P : Lf.Pg} (hs : Hid (Lf.Spl s k L P R)) {A B : List ByteArray} (hk : Hid (Lf.Kp P.ks k A B)) (hb : Hid (B.head? ≠ some k)) (hz : k.size ≤ 1024) (hf : Hid (¬ (A ++ k :: B).length ≤ s.fan)) (hla : s.last ≤ 100000) :
    Calls Tryz.prog 35 #[.pointer (some ⟨p, 0, none⟩), .string k] w fun e w' => ∃ s' l f t, e = .returned (.agg #[.int .i64 ((l : Nat) : Int), .int .i64 ((f : Nat) : Int), .int .i64 ((t : Nat) : Int), .int .i64 0]) ∧ Lf.InsR s k s' l f t 0 ∧ Lf.Out w base p r kf s w' s' := by
  have hkl : P.ks.length ≤ 64 := by have := (hI.out.ks P hs.out.mem).2.2; have := hI.out.f2; omega
  obtain ⟨w1, hw1⟩ : ∃ w1, w.alloc (.cells #[.int .i64 0, .int .i64 0, .int .i64 0, .int .i64 0] 42) = w1 := ⟨_, rfl⟩
  have HB1 : Hid (Below w.heap.size w w1) := Mm.hid (by rw [← hw1]; exact (Below.refl _ _).alloc (Nat.le_refl _) _)
  have HX1 : Hid (w1.heap[w.heap.size]? = some (.cells #[.int .i64 0, .int .i64 0, .int .i64 0, .int .i64 0] 42 (0, 0))) := Mm.hid (by rw [← hw1]; exact Mm.newAt _ _ rfl)
  have hno : Lf.inKs P.ks k = false := by
    cases h9 : Lf.inKs P.ks k with
    | false => rfl
    | true => exact absurd ((hk.out.mem (hI.out.ks P hs.out.mem).1).1 (Lf.inKs_iff.1 h9)) hb.out
  have hhas := refHas_any (Mm.hid (H.out.below HB1.out).rd) hs hn (by omega)
  rw [hno] at hhas
  have HHAS := Mm.hid hhas
  clear hhas hno
  have hz' : ¬ ((1024 : Int) < (k.size : Int)) := by omega
  go_enter Tryz.func35, Tryz.ntmps35
  go_wp2_with fail
  refine HHAS.out.mono ?_
  rintro e w2 ⟨rfl, hb2⟩
  clear HHAS hz'
  have HB2 : Hid (Below w.heap.size w w2) := Mm.hid (HB1.out.trans (hb2.mono HB1.out.size))
  have HX2 : Hid (w2.heap[w.heap.size]? = some (.cells #[.int .i64 0, .int .i64 0, .int .i64 0, .int .i64 0] 42 (0, 0))) := Mm.hid ((hb2.block _ (Mm.heapLt HX1.out)).trans HX1.out)
  have HM2 := Mm.hid (H.out.below HB2.out)
  clear hb2 HB1 HX1
  have HAT := Mm.hid (refAt_any (Mm.hid HM2.out.rd) hs hn)
  have hi : s.pgs[L.length]? = some P := by rw [hs.out.e]; simp
  obtain ⟨-, -, -, d3⟩ := HM2.out.rd.at_ _ P hi
  have c0 := HM2.out.rd.c0
  obtain ⟨l, hl⟩ : ∃ l, l = L.length := ⟨_, rfl⟩
  rw [← hl] at d3 HAT hi
  obtain ⟨n, hnn⟩ : ∃ n, n = s.pgs.length := ⟨_, rfl⟩
  have hln : l < n := by rw [hnn]; exact (List.getElem?_eq_some_iff.1 hi).1
  rw [← hnn] at c0 hn
  have g1 : (0 : Int) ≤ (l : Int) := by omega
  have g2 : (l : Int) < (n : Int) := by omega
  have HON := Mm.hid (HM2.out.ks P hs.out.mem).1
  obtain ⟨q, cq, ekf, hc1, hc2, hc3, hc4⟩ := HON.out.shape
  rw [Lf.strs_len] at ekf hc1
  obtain ⟨m, hm⟩ : ∃ m, m = P.ks.length := ⟨_, rfl⟩
  rw [← hm] at ekf hc1 hkl
  rw [ekf] at d3
  obtain ⟨a, ha⟩ : ∃ a, a = A.length := ⟨_, rfl⟩
  have ham : a ≤ m := by rw [ha, hm, hk.out.e, List.length_append]; omega
  have HAL : Hid (A.length = a) := Mm.hid ha.symm
  have HBL : Hid (B.length = m - a) := Mm.hid (by have h1 := congrArg List.length hk.out.e; rw [List.length_append] at h1; omega)
  have HLL := Mm.hid hl
  have HN := Mm.hid hnn
  have HM := Mm.hid hm
  have HQN : Hid (q = none → cq = 0) := Mm.hid (fun e => (hc3 e).2)
  have HSI : Hid (Lf.SIn w2 q P.ks) := Mm.hid (by
    obtain ⟨q', c', e', _, h'⟩ := Lf.own_sin HON.out
    rw [ekf] at e'
    injection e' with e1 _ _
    rw [e1]; exact h')
  have HSA : Hid (Lf.SIn w2 q A) := Mm.hid (fun j x hx => HSI.out j x (by rw [hk.out.e, List.getElem?_append_left (List.getElem?_eq_some_iff.1 hx).1]; exact hx))
  have HEK := Mm.hid ekf
  have HLN := Mm.hid hln
  clear hi hl hnn hm ha hc3 hc4 ekf
  go_wp2_with fail
  refine HAT.out.mono ?_
  rintro e w3 ⟨rfl, hw⟩
  obtain rfl := hw.symm
  clear HAT hw
  go_wp2_with fail
  clear c0 d3
  go_loopw [7] (fun vp wr => ∃ j : Nat, j ≤ a ∧ vp = .int .i64 (j : Int) ∧ Hid (wr = w2)) (fun vp _ => a - (RowKit.intOf vp).toNat)
  case atStart => exact ⟨0, Nat.zero_le _, rfl, Mm.hid rfl⟩
  case round =>
    obtain ⟨j, hj, rfl, HW⟩ := hrel
    rename World => wr
    have hw := HW.out.symm
    subst hw
    clear HW
    go_upto_region 8 with fail
    go_cut [44] from 33 to 46 (fun vt wx => vt = .bool (decide (j < a)) ∧ wx = w2)
    case first =>
      by_cases hja : j < a
      · obtain ⟨y, hy⟩ : ∃ y, A[j]? = some y := ⟨A[j]'(by rw [HAL.out]; exact hja), List.getElem?_eq_getElem _⟩
        have ee : Op.bytesLess y.toList k.toList = true := hk.out.lo y (List.mem_of_getElem? hy)
        obtain ⟨bq, oq, rfl, hbq, hcq⟩ := HSA.out j y hy
        have g3 : (0 : Int) ≤ (j : Int) := by omega
        have g4 : (j : Int) < (m : Int) := by omega
        clear hy hbq
        have HJA := Mm.hid (decide_eq_true hja)
        clear hja
        go_wp2_with fail
        go_meet
        case rel => exact ⟨congrArg Value.bool HJA.out.symm, rfl⟩
      · have hje : j = a := by omega
        subst hje
        have HJA := Mm.hid (decide_eq_false hja)
        clear hja
        by_cases hjm : j < m
        · obtain ⟨y, hy⟩ : ∃ y, B[0]? = some y := ⟨B[0]'(by rw [HBL.out]; omega), List.getElem?_eq_getElem _⟩
          have ee : Op.bytesLess y.toList k.toList = false := hk.out.hi y (List.mem_of_getElem? hy)
          obtain ⟨bq, oq, rfl, hbq, hcq⟩ := HSI.out j y (by rw [hk.out.e, ← HAL.out, List.getElem?_append_right (Nat.le_refl _), Nat.sub_self]; exact hy)
          have g3 : (0 : Int) ≤ (j : Int) := by omega
          have g4 : (j : Int) < (m : Int) := by omega
          clear hy hbq
          go_wp2_with fail
          go_meet
          case rel => exact ⟨congrArg Value.bool HJA.out.symm, rfl⟩
        · have g4 : ¬ ((j : Int) < (m : Int)) := by omega
          go_wp2_with fail
          go_meet
          case rel => exact ⟨congrArg Value.bool HJA.out.symm, rfl⟩
    case rest =>
      obtain ⟨h44, hwc⟩ := hcut
      subst h44
      have hwc' := hwc.symm
      subst hwc'
      by_cases hja : j < a
      · rw [decide_eq_true hja]
        go_wp2_with fail
        exact ⟨⟨j + 1, by omega, by go_num, by first | trivial | exact Mm.hid rfl⟩, by simp [RowKit.intOf]; omega⟩
      · have hje : a = j := by omega
        subst hje
        rw [decide_eq_false hja]
        clear hja hj
        have h3 : (0 : Int) ≤ (a : Int) := by omega
        have h4 : (a : Int) ≤ (m : Int) := by omega
        have h5 : (a : Int) ≤ (cq : Int) := by omega
        have h6 : (m : Int) ≤ (cq : Int) := by omega
        go_upto_region 10 with fail
        go_cut [6] from 47 to 58 (fun v6 wx => Hid (Mm.Own wx w2.heap.size 9 v6 (Lf.strs (A ++ k :: B)) ∧ Below w2.heap.size w2 wx))
        case first =>
          by_cases hac : a = cq
          · have hmc : a = m := by omega
            have HSB : Hid (Lf.SIn w2 q B) := Mm.hid (fun j x hx => by
              have h9 := (List.getElem?_eq_some_iff.1 hx).1
              have h10 := HBL.out
              omega)
            subst hmc
            subst hac
            refine wp_region_held_drew (S := fun _ => True) (by kernel_rfl) (trivial) (fun hH => ?_)
            refine wpAnyH_take (i := 1) (oi := ?ot1q1) (v := ?vt1q1) ?hit1q1 ?hst1q1 ?hft1q1 ?hrt1q1 ?hQt1q1 (Or.inl ⟨?hwt1q1, ?hyt1q1⟩) ?hSt1q1 ?restt1q1
            case hit1q1 => (simp; rfl)
            case hst1q1 => kernel_rfl
            case hft1q1 => kernel_rfl
            case hrt1q1 => kernel_rfl
            case hQt1q1 => exact fun _ _ _ h => h
            case hwt1q1 => rfl
            case hyt1q1 => (intro wq hSq; (try dsimp only at hSq); go_simp; (try with_reducible rfl))
            case hSt1q1 => assumption
            simp only [Act.put, List.setIfInBounds_toArray, List.set_cons_zero, List.set_cons_succ]
            refine wpAnyH_take (i := 2) (oi := ?ot2q2) (v := ?vt2q2) ?hit2q2 ?hst2q2 ?hft2q2 ?hrt2q2 ?hQt2q2 (Or.inl ⟨?hwt2q2, ?hyt2q2⟩) ?hSt2q2 ?restt2q2
            case hit2q2 => (simp; rfl)
            case hst2q2 => kernel_rfl
            case hft2q2 => kernel_rfl
            case hrt2q2 => kernel_rfl
            case hQt2q2 => exact fun _ _ _ h => h
            case hwt2q2 => rfl
            case hyt2q2 => (intro wq hSq; (try dsimp only at hSq); go_simp; (try with_reducible rfl))
            case hSt2q2 => assumption
            simp only [Act.put, List.setIfInBounds_toArray, List.set_cons_zero, List.set_cons_succ]
            refine wpAnyH_take (i := 3) (oi := ?ot3q3) (v := ?vt3q3) ?hit3q3 ?hst3q3 ?hft3q3 ?hrt3q3 ?hQt3q3 (Or.inl ⟨?hwt3q3, ?hyt3q3⟩) ?hSt3q3 ?restt3q3
            case hit3q3 => (simp; rfl)
            case hst3q3 => kernel_rfl
            case hft3q3 => kernel_rfl
            case hrt3q3 => kernel_rfl
            case hQt3q3 => exact fun _ _ _ h => h
            case hwt3q3 => rfl
            case hyt3q3 => (intro wq hSq; (try dsimp only at hSq); go_simp; (try with_reducible rfl))
            case hSt3q3 => assumption
            simp only [Act.put, List.setIfInBounds_toArray, List.set_cons_zero, List.set_cons_succ]
            refine wpAnyH_take (i := 5) (oi := ?ot4q5) (v := ?vt4q5) ?hit4q5 ?hst4q5 ?hft4q5 ?hrt4q5 ?hQt4q5 (Or.inl ⟨?hwt4q5, ?hyt4q5⟩) ?hSt4q5 ?restt4q5
            case hit4q5 => (simp; rfl)
            case hst4q5 => kernel_rfl
            case hft4q5 => kernel_rfl
            case hrt4q5 => kernel_rfl
            case hQt4q5 => exact fun _ _ _ h => h
            case hwt4q5 => rfl
            case hyt4q5 => (intro wq hSq; (try dsimp only at hSq); go_simp; (try with_reducible rfl))
            case hSt4q5 => assumption
            simp only [Act.put, List.setIfInBounds_toArray, List.set_cons_zero, List.set_cons_succ]
            refine wpAnyH_take (i := 8) (oi := ?ot5q8) (v := ?vt5q8) ?hit5q8 ?hst5q8 ?hft5q8 ?hrt5q8 ?hQt5q8 (Or.inl ⟨?hwt5q8, ?hyt5q8⟩) ?hSt5q8 ?restt5q8
            case hit5q8 => (simp; rfl)
            case hst5q8 => kernel_rfl
            case hft5q8 => kernel_rfl
            case hrt5q8 => kernel_rfl
            case hQt5q8 => exact fun _ _ _ h => h
            case hwt5q8 => rfl
            case hyt5q8 => (intro wq hSq; (try dsimp only at hSq); go_simp; (try with_reducible rfl))
            case hSt5q8 => assumption
            simp only [Act.put, List.setIfInBounds_toArray, List.set_cons_zero, List.set_cons_succ]
            refine wpAnyH_take (i := 9) (oi := ?ot6q9) (v := ?vt6q9) ?hit6q9 ?hst6q9 ?hft6q9 ?hrt6q9 ?hQt6q9 (Or.inl ⟨?hwt6q9, ?hyt6q9⟩) ?hSt6q9 ?restt6q9
            case hit6q9 => (simp; rfl)
            case hst6q9 => kernel_rfl
            case hft6q9 => kernel_rfl
            case hrt6q9 => kernel_rfl
            case hQt6q9 => exact fun _ _ _ h => h
            case hwt6q9 => rfl
            case hyt6q9 => (intro wq hSq; (try dsimp only at hSq); go_simp; (try with_reducible rfl))
            case hSt6q9 => assumption
            simp only [Act.put, List.setIfInBounds_toArray, List.set_cons_zero, List.set_cons_succ]
            refine wpAnyH_take (i := 10) (oi := ?ot7q10) (v := ?vt7q10) ?hit7q10 ?hst7q10 ?hft7q10 ?hrt7q10 ?hQt7q10 (Or.inl ⟨?hwt7q10, ?hyt7q10⟩) ?hSt7q10 ?restt7q10
            case hit7q10 => (simp; rfl)
            case hst7q10 => kernel_rfl
            case hft7q10 => kernel_rfl
            case hrt7q10 => kernel_rfl
            case hQt7q10 => exact fun _ _ _ h => h
            case hwt7q10 => rfl
            case hyt7q10 => (intro wq hSq; (try dsimp only at hSq); go_simp; (try with_reducible rfl))
            case hSt7q10 => assumption
            simp only [Act.put, List.setIfInBounds_toArray, List.set_cons_zero, List.set_cons_succ]
            refine wpAnyH_ready (rs := [0, 6]) (by kernel_rfl) (by simp) ?_
            refine AllReadyH.cons (o := ?ot8q) ?ht8q (fun K hK => ?rt8q) (AllReadyH.cons (o := ?ot9q) ?ht9q (fun K hK => ?rt9q) AllReadyH.nil)
            case ht8q => (simp; rfl)
            case ht9q => (simp; rfl)
            case rt8q =>
              go_simp
              refine hK.out _ _ (trivial) (fun hHt10q => ?_)
              clear hK K
              refine wpAnyH_ready (rs := [4, 6]) (by kernel_rfl) (by simp) ?_
              refine AllReadyH.cons (o := ?ot11q) ?ht11q (fun K hK => ?rt11q) (AllReadyH.cons (o := ?ot12q) ?ht12q (fun K hK => ?rt12q) AllReadyH.nil)
              case ht11q => (simp; rfl)
              case ht12q => (simp; rfl)
              case rt11q =>
                have ho0 : (w2.drew.alloc (.cells #[] 9)).ownsRow w2.heap.size 9 1 (.slice (some ⟨w2.heap.size, 0, none⟩) 0 0) 0 [] := World.ownsRow_made w2.drew #[] 0 (show w2.heap.size ≤ w2.drew.heap.size by simp) (Nat.zero_le _) rfl
                have ho1 := ho0
                have HO0 : Hid (Mm.Own (w2.drew.alloc (.cells #[] 9)) w2.heap.size 9 (.slice (some ⟨w2.heap.size, 0, none⟩) 0 0) (Lf.strs [])) := Mm.hid ho1
                have HGR : Hid (Below w2.heap.size w2 (w2.drew.alloc (.cells #[] 9))) := Mm.hid (((Below.refl _ w2).drew.alloc (by simp) _))
                clear ho0 ho1
                refine Lf.stepT rfl _ _ rfl w2.heap.size (w := (w2.drew.alloc (.cells #[] 9))) _ [] rfl HO0.out q a a A rfl HAL.out ((HSA.out).below HGR.out) HQN.out (by omega) (by simp) HGR.out.size ?_
                intro v1a w1a hown1 hg1 hl1
                rw [List.nil_append] at hown1
                have HO1a := Mm.hid hown1
                have HB1a : Hid (Below w2.heap.size w2 w1a) := Mm.hid (HGR.out.grown hg1 HGR.out.size (fun g hg => (Mm.Own.lt HO0.out hg).2))
                clear hown1 hg1 hl1
                refine hK.out _ _ (trivial) (fun hHt13q => ?_)
                clear hK K
                refine wpAnyH_ready (rs := [6]) (by kernel_rfl) (by simp) ?_
                refine AllReadyH.cons (o := ?ot14q) ?ht14q (fun K hK => ?rt14q) AllReadyH.nil
                case ht14q => (simp; rfl)
                case rt14q =>
                  go_simp
                  refine hK.out _ _ (trivial) (fun hHt15q => ?_)
                  clear hK K
                  refine wpAnyH_ready (rs := [7]) (by kernel_rfl) (by simp) ?_
                  refine AllReadyH.cons (o := ?ot16q) ?ht16q (fun K hK => ?rt16q) AllReadyH.nil
                  case ht16q => (simp; rfl)
                  case rt16q =>
                    have HOX : Hid (Mm.Own (w1a.alloc (.cells #[.string k] 9)) w2.heap.size 9 v1a (Lf.strs A)) := Mm.hid (HO1a.out.below ((Below.refl _ _).alloc (Nat.le_refl _) _))
                    have HGR2 : Hid (Below w2.heap.size w2 (w1a.alloc (.cells #[.string k] 9))) := Mm.hid (HB1a.out.alloc HB1a.out.size _)
                    refine Lf.step1T rfl _ _ rfl w2.heap.size (w := (w1a.alloc (.cells #[.string k] 9))) v1a A k rfl HOX.out w1a.heap.size rfl (Mm.cellOf (Mm.newAt w1a _ rfl) rfl) (by rw [HAL.out]; omega) HGR2.out.size ?_
                    intro v2a w2a hown2 hg2 hl2
                    have HO2a := Mm.hid hown2
                    have HB2a : Hid (Below w2.heap.size w2 w2a) := Mm.hid (HGR2.out.grown hg2 HGR2.out.size (fun g hg => (HOX.out.lt hg).2))
                    clear hown2 hg2 hl2
                    refine hK.out _ _ (trivial) (fun hHt17q => ?_)
                    clear hK K
                    refine wpAnyH_ready (rs := [11]) (by kernel_rfl) (by simp) ?_
                    refine AllReadyH.cons (o := ?ot18q) ?ht18q (fun K hK => ?rt18q) AllReadyH.nil
                    case ht18q => (simp; rfl)
                    case rt18q =>
                      refine Lf.stepT rfl _ _ rfl w2.heap.size (w := w2a) v2a (A ++ [k]) rfl HO2a.out q (a - a) (a - a) B (by simp [Act.eval, Act.put]; try omega) (by rw [HBL.out]) ((HSB.out).below HB2a.out) (by intro e; first | (cases e; done) | omega) (by omega) (by rw [List.length_append, HAL.out, List.length_singleton]; omega) HB2a.out.size ?_
                      intro v3a w3a hown3 hg3 hl3
                      have HO3a := Mm.hid hown3
                      have HB3a : Hid (Below w2.heap.size w2 w3a) := Mm.hid (HB2a.out.grown hg3 HB2a.out.size (fun g hg => (HO2a.out.lt hg).2))
                      clear hown3 hg3 hl3
                      refine hK.out _ _ (trivial) (fun hHt19q => ?_)
                      clear hK K
                      refine wpAnyH_take (i := 12) (oi := ?ot20q12) (v := ?vt20q12) ?hit20q12 ?hst20q12 ?hft20q12 ?hrt20q12 ?hQt20q12 (Or.inl ⟨?hwt20q12, ?hyt20q12⟩) ?hSt20q12 ?restt20q12
                      case hit20q12 => (simp; rfl)
                      case hst20q12 => kernel_rfl
                      case hft20q12 => kernel_rfl
                      case hrt20q12 => kernel_rfl
                      case hQt20q12 => exact fun _ _ _ h => h
                      case hwt20q12 => rfl
                      case hyt20q12 => (intro wq hSq; (try dsimp only at hSq); go_simp; (try with_reducible rfl))
                      case hSt20q12 => assumption
                      simp only [Act.put, List.setIfInBounds_toArray, List.set_cons_zero, List.set_cons_succ]
                      refine wpAnyH_done (by kernel_rfl) ?_ _
                      go_wp2_with fail
                      go_meet
                      case rel => exact Mm.hid ⟨by rw [show A ++ k :: B = A ++ [k] ++ B by simp]; exact HO3a.out, HB3a.out⟩
              case rt12q =>
                go_simp
                refine hK.out _ _ (trivial) (fun hHt21q => ?_)
                clear hK K
                refine wpAnyH_ready (rs := [4]) (by kernel_rfl) (by simp) ?_
                refine AllReadyH.cons (o := ?ot22q) ?ht22q (fun K hK => ?rt22q) AllReadyH.nil
                case ht22q => (simp; rfl)
                case rt22q =>
                  have ho0 : (w2.drew.alloc (.cells #[] 9)).ownsRow w2.heap.size 9 1 (.slice (some ⟨w2.heap.size, 0, none⟩) 0 0) 0 [] := World.ownsRow_made w2.drew #[] 0 (show w2.heap.size ≤ w2.drew.heap.size by simp) (Nat.zero_le _) rfl
                  have ho1 : ((w2.drew.alloc (.cells #[] 9)).alloc (.cells #[.string k] 9)).ownsRow w2.heap.size 9 1 (.slice (some ⟨w2.heap.size, 0, none⟩) 0 0) 0 [] := Mm.Own.below ho0 ((Below.refl _ _).alloc (Nat.le_refl _) _)
                  have HO0 : Hid (Mm.Own ((w2.drew.alloc (.cells #[] 9)).alloc (.cells #[.string k] 9)) w2.heap.size 9 (.slice (some ⟨w2.heap.size, 0, none⟩) 0 0) (Lf.strs [])) := Mm.hid ho1
                  have HGR : Hid (Below w2.heap.size w2 ((w2.drew.alloc (.cells #[] 9)).alloc (.cells #[.string k] 9))) := Mm.hid ((((Below.refl _ w2).drew.alloc (by simp) _).alloc (by simp) _))
                  clear ho0 ho1
                  refine Lf.stepT rfl _ _ rfl w2.heap.size (w := ((w2.drew.alloc (.cells #[] 9)).alloc (.cells #[.string k] 9))) _ [] rfl HO0.out q a a A rfl HAL.out ((HSA.out).below HGR.out) HQN.out (by omega) (by simp) HGR.out.size ?_
                  intro v1a w1a hown1 hg1 hl1
                  rw [List.nil_append] at hown1
                  have HO1a := Mm.hid hown1
                  have HB1a : Hid (Below w2.heap.size w2 w1a) := Mm.hid (HGR.out.grown hg1 HGR.out.size (fun g hg => (Mm.Own.lt HO0.out hg).2))
                  have HT1 : Hid (w1a.heap[(w2.heap.size + 1)]? = some (.cells #[.string k] 9 (0, 0))) := Mm.hid ((hg1.block (w2.heap.size + 1) (by simp; try omega) (fun e => absurd (Option.some.inj e) (by first | exact Nat.succ_ne_self _ | exact (Nat.succ_ne_self _).symm))).trans (Mm.newAt _ _ (by simp)))
                  clear hown1 hg1 hl1
                  refine hK.out _ _ (trivial) (fun hHt23q => ?_)
                  clear hK K
                  refine wpAnyH_ready (rs := [7]) (by kernel_rfl) (by simp) ?_
                  refine AllReadyH.cons (o := ?ot24q) ?ht24q (fun K hK => ?rt24q) AllReadyH.nil
                  case ht24q => (simp; rfl)
                  case rt24q =>
                    have HOX : Hid (Mm.Own w1a w2.heap.size 9 v1a (Lf.strs A)) := Mm.hid HO1a.out
                    have HGR2 : Hid (Below w2.heap.size w2 w1a) := Mm.hid HB1a.out
                    refine Lf.step1T rfl _ _ rfl w2.heap.size (w := w1a) v1a A k rfl HOX.out (w2.heap.size + 1) rfl (Mm.cellOf HT1.out rfl) (by rw [HAL.out]; omega) HGR2.out.size ?_
                    intro v2a w2a hown2 hg2 hl2
                    have HO2a := Mm.hid hown2
                    have HB2a : Hid (Below w2.heap.size w2 w2a) := Mm.hid (HGR2.out.grown hg2 HGR2.out.size (fun g hg => (HOX.out.lt hg).2))
                    clear hown2 hg2 hl2
                    refine hK.out _ _ (trivial) (fun hHt25q => ?_)
                    clear hK K
                    refine wpAnyH_ready (rs := [11]) (by kernel_rfl) (by simp) ?_
                    refine AllReadyH.cons (o := ?ot26q) ?ht26q (fun K hK => ?rt26q) AllReadyH.nil
                    case ht26q => (simp; rfl)
                    case rt26q =>
                      refine Lf.stepT rfl _ _ rfl w2.heap.size (w := w2a) v2a (A ++ [k]) rfl HO2a.out q (a - a) (a - a) B (by simp [Act.eval, Act.put]; try omega) (by rw [HBL.out]) ((HSB.out).below HB2a.out) (by intro e; first | (cases e; done) | omega) (by omega) (by rw [List.length_append, HAL.out, List.length_singleton]; omega) HB2a.out.size ?_
                      intro v3a w3a hown3 hg3 hl3
                      have HO3a := Mm.hid hown3
                      have HB3a : Hid (Below w2.heap.size w2 w3a) := Mm.hid (HB2a.out.grown hg3 HB2a.out.size (fun g hg => (HO2a.out.lt hg).2))
                      clear hown3 hg3 hl3
                      refine hK.out _ _ (trivial) (fun hHt27q => ?_)
                      clear hK K
                      refine wpAnyH_take (i := 12) (oi := ?ot28q12) (v := ?vt28q12) ?hit28q12 ?hst28q12 ?hft28q12 ?hrt28q12 ?hQt28q12 (Or.inl ⟨?hwt28q12, ?hyt28q12⟩) ?hSt28q12 ?restt28q12
                      case hit28q12 => (simp; rfl)
                      case hst28q12 => kernel_rfl
                      case hft28q12 => kernel_rfl
                      case hrt28q12 => kernel_rfl
                      case hQt28q12 => exact fun _ _ _ h => h
                      case hwt28q12 => rfl
                      case hyt28q12 => (intro wq hSq; (try dsimp only at hSq); go_simp; (try with_reducible rfl))
                      case hSt28q12 => assumption
                      simp only [Act.put, List.setIfInBounds_toArray, List.set_cons_zero, List.set_cons_succ]
                      refine wpAnyH_done (by kernel_rfl) ?_ _
                      go_wp2_with fail
                      go_meet
                      case rel => exact Mm.hid ⟨by rw [show A ++ k :: B = A ++ [k] ++ B by simp]; exact HO3a.out, HB3a.out⟩
            case rt9q =>
              go_simp
              refine hK.out _ _ (trivial) (fun hHt29q => ?_)
              clear hK K
              refine wpAnyH_ready (rs := [0]) (by kernel_rfl) (by simp) ?_
              refine AllReadyH.cons (o := ?ot30q) ?ht30q (fun K hK => ?rt30q) AllReadyH.nil
              case ht30q => (simp; rfl)
              case rt30q =>
                go_simp
                refine hK.out _ _ (trivial) (fun hHt31q => ?_)
                clear hK K
                refine wpAnyH_ready (rs := [4]) (by kernel_rfl) (by simp) ?_
                refine AllReadyH.cons (o := ?ot32q) ?ht32q (fun K hK => ?rt32q) AllReadyH.nil
                case ht32q => (simp; rfl)
                case rt32q =>
                  have ho0 : ((w2.drew.alloc (.cells #[.string k] 9)).alloc (.cells #[] 9)).ownsRow w2.heap.size 9 1 (.slice (some ⟨(w2.heap.size + 1), 0, none⟩) 0 0) 0 [] := by
                    have h0 := World.ownsRow_made (base := w2.heap.size) (e := 9) (size := 1) (w2.drew.alloc (.cells #[.string k] 9)) #[] 0 (show w2.heap.size ≤ (w2.drew.alloc (.cells #[.string k] 9)).heap.size by simp) (Nat.zero_le _) rfl
                    rw [World.size_alloc] at h0
                    exact h0
                  have ho1 := ho0
                  have HO0 : Hid (Mm.Own ((w2.drew.alloc (.cells #[.string k] 9)).alloc (.cells #[] 9)) w2.heap.size 9 (.slice (some ⟨(w2.heap.size + 1), 0, none⟩) 0 0) (Lf.strs [])) := Mm.hid ho1
                  have HGR : Hid (Below w2.heap.size w2 ((w2.drew.alloc (.cells #[.string k] 9)).alloc (.cells #[] 9))) := Mm.hid ((((Below.refl _ w2).drew.alloc (by simp) _).alloc (by simp) _))
                  clear ho0 ho1
                  refine Lf.stepT rfl _ _ rfl w2.heap.size (w := ((w2.drew.alloc (.cells #[.string k] 9)).alloc (.cells #[] 9))) _ [] rfl HO0.out q a a A rfl HAL.out ((HSA.out).below HGR.out) HQN.out (by omega) (by simp) HGR.out.size ?_
                  intro v1a w1a hown1 hg1 hl1
                  rw [List.nil_append] at hown1
                  have HO1a := Mm.hid hown1
                  have HB1a : Hid (Below w2.heap.size w2 w1a) := Mm.hid (HGR.out.grown hg1 HGR.out.size (fun g hg => (Mm.Own.lt HO0.out hg).2))
                  have HT1 : Hid (w1a.heap[w2.heap.size]? = some (.cells #[.string k] 9 (0, 0))) := Mm.hid ((hg1.block w2.heap.size (by simp; try omega) (fun e => absurd (Option.some.inj e) (by first | exact Nat.succ_ne_self _ | exact (Nat.succ_ne_self _).symm))).trans ((Mm.oldAt _ _ (by simp; try omega)).trans (Mm.newAt _ _ (by simp))))
                  clear hown1 hg1 hl1
                  refine hK.out _ _ (trivial) (fun hHt33q => ?_)
                  clear hK K
                  refine wpAnyH_ready (rs := [7]) (by kernel_rfl) (by simp) ?_
                  refine AllReadyH.cons (o := ?ot34q) ?ht34q (fun K hK => ?rt34q) AllReadyH.nil
                  case ht34q => (simp; rfl)
                  case rt34q =>
                    have HOX : Hid (Mm.Own w1a w2.heap.size 9 v1a (Lf.strs A)) := Mm.hid HO1a.out
                    have HGR2 : Hid (Below w2.heap.size w2 w1a) := Mm.hid HB1a.out
                    refine Lf.step1T rfl _ _ rfl w2.heap.size (w := w1a) v1a A k rfl HOX.out w2.heap.size rfl (Mm.cellOf HT1.out rfl) (by rw [HAL.out]; omega) HGR2.out.size ?_
                    intro v2a w2a hown2 hg2 hl2
                    have HO2a := Mm.hid hown2
                    have HB2a : Hid (Below w2.heap.size w2 w2a) := Mm.hid (HGR2.out.grown hg2 HGR2.out.size (fun g hg => (HOX.out.lt hg).2))
                    clear hown2 hg2 hl2
                    refine hK.out _ _ (trivial) (fun hHt35q => ?_)
                    clear hK K
                    refine wpAnyH_ready (rs := [11]) (by kernel_rfl) (by simp) ?_
                    refine AllReadyH.cons (o := ?ot36q) ?ht36q (fun K hK => ?rt36q) AllReadyH.nil
                    case ht36q => (simp; rfl)
                    case rt36q =>
                      refine Lf.stepT rfl _ _ rfl w2.heap.size (w := w2a) v2a (A ++ [k]) rfl HO2a.out q (a - a) (a - a) B (by simp [Act.eval, Act.put]; try omega) (by rw [HBL.out]) ((HSB.out).below HB2a.out) (by intro e; first | (cases e; done) | omega) (by omega) (by rw [List.length_append, HAL.out, List.length_singleton]; omega) HB2a.out.size ?_
                      intro v3a w3a hown3 hg3 hl3
                      have HO3a := Mm.hid hown3
                      have HB3a : Hid (Below w2.heap.size w2 w3a) := Mm.hid (HB2a.out.grown hg3 HB2a.out.size (fun g hg => (HO2a.out.lt hg).2))
                      clear hown3 hg3 hl3
                      refine hK.out _ _ (trivial) (fun hHt37q => ?_)
                      clear hK K
                      refine wpAnyH_take (i := 12) (oi := ?ot38q12) (v := ?vt38q12) ?hit38q12 ?hst38q12 ?hft38q12 ?hrt38q12 ?hQt38q12 (Or.inl ⟨?hwt38q12, ?hyt38q12⟩) ?hSt38q12 ?restt38q12
                      case hit38q12 => (simp; rfl)
                      case hst38q12 => kernel_rfl
                      case hft38q12 => kernel_rfl
                      case hrt38q12 => kernel_rfl
                      case hQt38q12 => exact fun _ _ _ h => h
                      case hwt38q12 => rfl
                      case hyt38q12 => (intro wq hSq; (try dsimp only at hSq); go_simp; (try with_reducible rfl))
                      case hSt38q12 => assumption
                      simp only [Act.put, List.setIfInBounds_toArray, List.set_cons_zero, List.set_cons_succ]
                      refine wpAnyH_done (by kernel_rfl) ?_ _
                      go_wp2_with fail
                      go_meet
                      case rel => exact Mm.hid ⟨by rw [show A ++ k :: B = A ++ [k] ++ B by simp]; exact HO3a.out, HB3a.out⟩
          · have hac2 : a < cq := by omega
            obtain ⟨g, rfl⟩ : ∃ g, q = some ⟨g, 0, none⟩ := by
              rcases HON.out.2 with ⟨e1, _⟩ | ⟨g, cap, cur, e1, _⟩
              · rw [HEK.out] at e1
                injection e1 with _ _ e1
                omega
              · rw [HEK.out] at e1
                injection e1 with e1 _ _
                exact ⟨g, e1⟩
            have HSB : Hid (Lf.SIn w2 (some ⟨g, a, none⟩) B) := Mm.hid (fun j x hx => by
              obtain ⟨b, o, e, h1, h2⟩ := HSI.out (a + j) x (by rw [hk.out.e, List.getElem?_append_right (by rw [HAL.out]; omega), HAL.out, Nat.add_sub_cancel_left]; exact hx)
              injection e with e
              injection e with e1 e2
              subst e1 e2
              exact ⟨g, a, rfl, h1, by rw [Nat.zero_add] at h2; exact h2⟩)
            have h7 : (a : Int) < (cq : Int) := by omega
            refine wp_region_held_drew (S := fun _ => True) (by kernel_rfl) (trivial) (fun hH => ?_)
            refine wpAnyH_take (i := 1) (oi := ?ou1q1) (v := ?vu1q1) ?hiu1q1 ?hsu1q1 ?hfu1q1 ?hru1q1 ?hQu1q1 (Or.inl ⟨?hwu1q1, ?hyu1q1⟩) ?hSu1q1 ?restu1q1
            case hiu1q1 => (simp; rfl)
            case hsu1q1 => kernel_rfl
            case hfu1q1 => kernel_rfl
            case hru1q1 => kernel_rfl
            case hQu1q1 => exact fun _ _ _ h => h
            case hwu1q1 => rfl
            case hyu1q1 => (intro wq hSq; (try dsimp only at hSq); go_simp; (try with_reducible rfl))
            case hSu1q1 => assumption
            simp only [Act.put, List.setIfInBounds_toArray, List.set_cons_zero, List.set_cons_succ]
            refine wpAnyH_take (i := 2) (oi := ?ou2q2) (v := ?vu2q2) ?hiu2q2 ?hsu2q2 ?hfu2q2 ?hru2q2 ?hQu2q2 (Or.inl ⟨?hwu2q2, ?hyu2q2⟩) ?hSu2q2 ?restu2q2
            case hiu2q2 => (simp; rfl)
            case hsu2q2 => kernel_rfl
            case hfu2q2 => kernel_rfl
            case hru2q2 => kernel_rfl
            case hQu2q2 => exact fun _ _ _ h => h
            case hwu2q2 => rfl
            case hyu2q2 => (intro wq hSq; (try dsimp only at hSq); go_simp; (try with_reducible rfl))
            case hSu2q2 => assumption
            simp only [Act.put, List.setIfInBounds_toArray, List.set_cons_zero, List.set_cons_succ]
            refine wpAnyH_take (i := 3) (oi := ?ou3q3) (v := ?vu3q3) ?hiu3q3 ?hsu3q3 ?hfu3q3 ?hru3q3 ?hQu3q3 (Or.inl ⟨?hwu3q3, ?hyu3q3⟩) ?hSu3q3 ?restu3q3
            case hiu3q3 => (simp; rfl)
            case hsu3q3 => kernel_rfl
            case hfu3q3 => kernel_rfl
            case hru3q3 => kernel_rfl
            case hQu3q3 => exact fun _ _ _ h => h
            case hwu3q3 => rfl
            case hyu3q3 => (intro wq hSq; (try dsimp only at hSq); go_simp; (try with_reducible rfl))
            case hSu3q3 => assumption
            simp only [Act.put, List.setIfInBounds_toArray, List.set_cons_zero, List.set_cons_succ]
            refine wpAnyH_take (i := 5) (oi := ?ou4q5) (v := ?vu4q5) ?hiu4q5 ?hsu4q5 ?hfu4q5 ?hru4q5 ?hQu4q5 (Or.inl ⟨?hwu4q5, ?hyu4q5⟩) ?hSu4q5 ?restu4q5
            case hiu4q5 => (simp; rfl)
            case hsu4q5 => kernel_rfl
            case hfu4q5 => kernel_rfl
            case hru4q5 => kernel_rfl
            case hQu4q5 => exact fun _ _ _ h => h
            case hwu4q5 => rfl
            case hyu4q5 => (intro wq hSq; (try dsimp only at hSq); go_simp; (try with_reducible rfl))
            case hSu4q5 => assumption
            simp only [Act.put, List.setIfInBounds_toArray, List.set_cons_zero, List.set_cons_succ]
            refine wpAnyH_take (i := 8) (oi := ?ou5q8) (v := ?vu5q8) ?hiu5q8 ?hsu5q8 ?hfu5q8 ?hru5q8 ?hQu5q8 (Or.inl ⟨?hwu5q8, ?hyu5q8⟩) ?hSu5q8 ?restu5q8
            case hiu5q8 => (simp; rfl)
            case hsu5q8 => kernel_rfl
            case hfu5q8 => kernel_rfl
            case hru5q8 => kernel_rfl
            case hQu5q8 => exact fun _ _ _ h => h
            case hwu5q8 => rfl
            case hyu5q8 => (intro wq hSq; (try dsimp only at hSq); go_simp; (try with_reducible rfl))
            case hSu5q8 => assumption
            simp only [Act.put, List.setIfInBounds_toArray, List.set_cons_zero, List.set_cons_succ]
            refine wpAnyH_take (i := 9) (oi := ?ou6q9) (v := ?vu6q9) ?hiu6q9 ?hsu6q9 ?hfu6q9 ?hru6q9 ?hQu6q9 (Or.inl ⟨?hwu6q9, ?hyu6q9⟩) ?hSu6q9 ?restu6q9
            case hiu6q9 => (simp; rfl)
            case hsu6q9 => kernel_rfl
            case hfu6q9 => kernel_rfl
            case hru6q9 => kernel_rfl
            case hQu6q9 => exact fun _ _ _ h => h
            case hwu6q9 => rfl
            case hyu6q9 => (intro wq hSq; (try dsimp only at hSq); go_simp; (try with_reducible rfl))
            case hSu6q9 => assumption
            simp only [Act.put, List.setIfInBounds_toArray, List.set_cons_zero, List.set_cons_succ]
            refine wpAnyH_take (i := 10) (oi := ?ou7q10) (v := ?vu7q10) ?hiu7q10 ?hsu7q10 ?hfu7q10 ?hru7q10 ?hQu7q10 (Or.inl ⟨?hwu7q10, ?hyu7q10⟩) ?hSu7q10 ?restu7q10
            case hiu7q10 => (simp; rfl)
            case hsu7q10 => kernel_rfl
            case hfu7q10 => kernel_rfl
            case hru7q10 => kernel_rfl
            case hQu7q10 => exact fun _ _ _ h => h
            case hwu7q10 => rfl
            case hyu7q10 => (intro wq hSq; (try dsimp only at hSq); go_simp; (try with_reducible rfl))
            case hSu7q10 => assumption
            simp only [Act.put, List.setIfInBounds_toArray, List.set_cons_zero, List.set_cons_succ]
            refine wpAnyH_ready (rs := [0, 6]) (by kernel_rfl) (by simp) ?_
            refine AllReadyH.cons (o := ?ou8q) ?hu8q (fun K hK => ?ru8q) (AllReadyH.cons (o := ?ou9q) ?hu9q (fun K hK => ?ru9q) AllReadyH.nil)
            case hu8q => (simp; rfl)
            case hu9q => (simp; rfl)
            case ru8q =>
              go_simp
              refine hK.out _ _ (trivial) (fun hHu10q => ?_)
              clear hK K
              refine wpAnyH_ready (rs := [4, 6]) (by kernel_rfl) (by simp) ?_
              refine AllReadyH.cons (o := ?ou11q) ?hu11q (fun K hK => ?ru11q) (AllReadyH.cons (o := ?ou12q) ?hu12q (fun K hK => ?ru12q) AllReadyH.nil)
              case hu11q => (simp; rfl)
              case hu12q => (simp; rfl)
              case ru11q =>
                have ho0 : (w2.drew.alloc (.cells #[] 9)).ownsRow w2.heap.size 9 1 (.slice (some ⟨w2.heap.size, 0, none⟩) 0 0) 0 [] := World.ownsRow_made w2.drew #[] 0 (show w2.heap.size ≤ w2.drew.heap.size by simp) (Nat.zero_le _) rfl
                have ho1 := ho0
                have HO0 : Hid (Mm.Own (w2.drew.alloc (.cells #[] 9)) w2.heap.size 9 (.slice (some ⟨w2.heap.size, 0, none⟩) 0 0) (Lf.strs [])) := Mm.hid ho1
                have HGR : Hid (Below w2.heap.size w2 (w2.drew.alloc (.cells #[] 9))) := Mm.hid (((Below.refl _ w2).drew.alloc (by simp) _))
                clear ho0 ho1
                refine Lf.stepT rfl _ _ rfl w2.heap.size (w := (w2.drew.alloc (.cells #[] 9))) _ [] rfl HO0.out (some ⟨g, 0, none⟩) a cq A rfl HAL.out ((HSA.out).below HGR.out) HQN.out (by omega) (by simp) HGR.out.size ?_
                intro v1a w1a hown1 hg1 hl1
                rw [List.nil_append] at hown1
                have HO1a := Mm.hid hown1
                have HB1a : Hid (Below w2.heap.size w2 w1a) := Mm.hid (HGR.out.grown hg1 HGR.out.size (fun g hg => (Mm.Own.lt HO0.out hg).2))
                clear hown1 hg1 hl1
                refine hK.out _ _ (trivial) (fun hHu13q => ?_)
                clear hK K
                refine wpAnyH_ready (rs := [6]) (by kernel_rfl) (by simp) ?_
                refine AllReadyH.cons (o := ?ou14q) ?hu14q (fun K hK => ?ru14q) AllReadyH.nil
                case hu14q => (simp; rfl)
                case ru14q =>
                  go_simp
                  refine hK.out _ _ (trivial) (fun hHu15q => ?_)
                  clear hK K
                  refine wpAnyH_ready (rs := [7]) (by kernel_rfl) (by simp) ?_
                  refine AllReadyH.cons (o := ?ou16q) ?hu16q (fun K hK => ?ru16q) AllReadyH.nil
                  case hu16q => (simp; rfl)
                  case ru16q =>
                    have HOX : Hid (Mm.Own (w1a.alloc (.cells #[.string k] 9)) w2.heap.size 9 v1a (Lf.strs A)) := Mm.hid (HO1a.out.below ((Below.refl _ _).alloc (Nat.le_refl _) _))
                    have HGR2 : Hid (Below w2.heap.size w2 (w1a.alloc (.cells #[.string k] 9))) := Mm.hid (HB1a.out.alloc HB1a.out.size _)
                    refine Lf.step1T rfl _ _ rfl w2.heap.size (w := (w1a.alloc (.cells #[.string k] 9))) v1a A k rfl HOX.out w1a.heap.size rfl (Mm.cellOf (Mm.newAt w1a _ rfl) rfl) (by rw [HAL.out]; omega) HGR2.out.size ?_
                    intro v2a w2a hown2 hg2 hl2
                    have HO2a := Mm.hid hown2
                    have HB2a : Hid (Below w2.heap.size w2 w2a) := Mm.hid (HGR2.out.grown hg2 HGR2.out.size (fun g hg => (HOX.out.lt hg).2))
                    clear hown2 hg2 hl2
                    refine hK.out _ _ (trivial) (fun hHu17q => ?_)
                    clear hK K
                    refine wpAnyH_ready (rs := [11]) (by kernel_rfl) (by simp) ?_
                    refine AllReadyH.cons (o := ?ou18q) ?hu18q (fun K hK => ?ru18q) AllReadyH.nil
                    case hu18q => (simp; rfl)
                    case ru18q =>
                      refine Lf.stepT rfl _ _ rfl w2.heap.size (w := w2a) v2a (A ++ [k]) rfl HO2a.out (some ⟨g, a, none⟩) (m - a) (cq - a) B (by simp [Act.eval, Act.put]; try omega) (by rw [HBL.out]) ((HSB.out).below HB2a.out) (by intro e; first | (cases e; done) | omega) (by omega) (by rw [List.length_append, HAL.out, List.length_singleton]; omega) HB2a.out.size ?_
                      intro v3a w3a hown3 hg3 hl3
                      have HO3a := Mm.hid hown3
                      have HB3a : Hid (Below w2.heap.size w2 w3a) := Mm.hid (HB2a.out.grown hg3 HB2a.out.size (fun g hg => (HO2a.out.lt hg).2))
                      clear hown3 hg3 hl3
                      refine hK.out _ _ (trivial) (fun hHu19q => ?_)
                      clear hK K
                      refine wpAnyH_take (i := 12) (oi := ?ou20q12) (v := ?vu20q12) ?hiu20q12 ?hsu20q12 ?hfu20q12 ?hru20q12 ?hQu20q12 (Or.inl ⟨?hwu20q12, ?hyu20q12⟩) ?hSu20q12 ?restu20q12
                      case hiu20q12 => (simp; rfl)
                      case hsu20q12 => kernel_rfl
                      case hfu20q12 => kernel_rfl
                      case hru20q12 => kernel_rfl
                      case hQu20q12 => exact fun _ _ _ h => h
                      case hwu20q12 => rfl
                      case hyu20q12 => (intro wq hSq; (try dsimp only at hSq); go_simp; (try with_reducible rfl))
                      case hSu20q12 => assumption
                      simp only [Act.put, List.setIfInBounds_toArray, List.set_cons_zero, List.set_cons_succ]
                      refine wpAnyH_done (by kernel_rfl) ?_ _
                      go_wp2_with fail
                      go_meet
                      case rel => exact Mm.hid ⟨by rw [show A ++ k :: B = A ++ [k] ++ B by simp]; exact HO3a.out, HB3a.out⟩
              case ru12q =>
                go_simp
                refine hK.out _ _ (trivial) (fun hHu21q => ?_)
                clear hK K
                refine wpAnyH_ready (rs := [4]) (by kernel_rfl) (by simp) ?_
                refine AllReadyH.cons (o := ?ou22q) ?hu22q (fun K hK => ?ru22q) AllReadyH.nil
                case hu22q => (simp; rfl)
                case ru22q =>
                  have ho0 : (w2.drew.alloc (.cells #[] 9)).ownsRow w2.heap.size 9 1 (.slice (some ⟨w2.heap.size, 0, none⟩) 0 0) 0 [] := World.ownsRow_made w2.drew #[] 0 (show w2.heap.size ≤ w2.drew.heap.size by simp) (Nat.zero_le _) rfl
                  have ho1 : ((w2.drew.alloc (.cells #[] 9)).alloc (.cells #[.string k] 9)).ownsRow w2.heap.size 9 1 (.slice (some ⟨w2.heap.size, 0, none⟩) 0 0) 0 [] := Mm.Own.below ho0 ((Below.refl _ _).alloc (Nat.le_refl _) _)
                  have HO0 : Hid (Mm.Own ((w2.drew.alloc (.cells #[] 9)).alloc (.cells #[.string k] 9)) w2.heap.size 9 (.slice (some ⟨w2.heap.size, 0, none⟩) 0 0) (Lf.strs [])) := Mm.hid ho1
                  have HGR : Hid (Below w2.heap.size w2 ((w2.drew.alloc (.cells #[] 9)).alloc (.cells #[.string k] 9))) := Mm.hid ((((Below.refl _ w2).drew.alloc (by simp) _).alloc (by simp) _))
                  clear ho0 ho1
                  refine Lf.stepT rfl _ _ rfl w2.heap.size (w := ((w2.drew.alloc (.cells #[] 9)).alloc (.cells #[.string k] 9))) _ [] rfl HO0.out (some ⟨g, 0, none⟩) a cq A rfl HAL.out ((HSA.out).below HGR.out) HQN.out (by omega) (by simp) HGR.out.size ?_
                  intro v1a w1a hown1 hg1 hl1
                  rw [List.nil_append] at hown1
                  have HO1a := Mm.hid hown1
                  have HB1a : Hid (Below w2.heap.size w2 w1a) := Mm.hid (HGR.out.grown hg1 HGR.out.size (fun g hg => (Mm.Own.lt HO0.out hg).2))
                  have HT1 : Hid (w1a.heap[(w2.heap.size + 1)]? = some (.cells #[.string k] 9 (0, 0))) := Mm.hid ((hg1.block (w2.heap.size + 1) (by simp; try omega) (fun e => absurd (Option.some.inj e) (by first | exact Nat.succ_ne_self _ | exact (Nat.succ_ne_self _).symm))).trans (Mm.newAt _ _ (by simp)))
                  clear hown1 hg1 hl1
                  refine hK.out _ _ (trivial) (fun hHu23q => ?_)
                  clear hK K
                  refine wpAnyH_ready (rs := [7]) (by kernel_rfl) (by simp) ?_
                  refine AllReadyH.cons (o := ?ou24q) ?hu24q (fun K hK => ?ru24q) AllReadyH.nil
                  case hu24q => (simp; rfl)
                  case ru24q =>
                    have HOX : Hid (Mm.Own w1a w2.heap.size 9 v1a (Lf.strs A)) := Mm.hid HO1a.out
                    have HGR2 : Hid (Below w2.heap.size w2 w1a) := Mm.hid HB1a.out
                    refine Lf.step1T rfl _ _ rfl w2.heap.size (w := w1a) v1a A k rfl HOX.out (w2.heap.size + 1) rfl (Mm.cellOf HT1.out rfl) (by rw [HAL.out]; omega) HGR2.out.size ?_
                    intro v2a w2a hown2 hg2 hl2
                    have HO2a := Mm.hid hown2
                    have HB2a : Hid (Below w2.heap.size w2 w2a) := Mm.hid (HGR2.out.grown hg2 HGR2.out.size (fun g hg => (HOX.out.lt hg).2))
                    clear hown2 hg2 hl2
                    refine hK.out _ _ (trivial) (fun hHu25q => ?_)
                    clear hK K
                    refine wpAnyH_ready (rs := [11]) (by kernel_rfl) (by simp) ?_
                    refine AllReadyH.cons (o := ?ou26q) ?hu26q (fun K hK => ?ru26q) AllReadyH.nil
                    case hu26q => (simp; rfl)
                    case ru26q =>
                      refine Lf.stepT rfl _ _ rfl w2.heap.size (w := w2a) v2a (A ++ [k]) rfl HO2a.out (some ⟨g, a, none⟩) (m - a) (cq - a) B (by simp [Act.eval, Act.put]; try omega) (by rw [HBL.out]) ((HSB.out).below HB2a.out) (by intro e; first | (cases e; done) | omega) (by omega) (by rw [List.length_append, HAL.out, List.length_singleton]; omega) HB2a.out.size ?_
                      intro v3a w3a hown3 hg3 hl3
                      have HO3a := Mm.hid hown3
                      have HB3a : Hid (Below w2.heap.size w2 w3a) := Mm.hid (HB2a.out.grown hg3 HB2a.out.size (fun g hg => (HO2a.out.lt hg).2))
                      clear hown3 hg3 hl3
                      refine hK.out _ _ (trivial) (fun hHu27q => ?_)
                      clear hK K
                      refine wpAnyH_take (i := 12) (oi := ?ou28q12) (v := ?vu28q12) ?hiu28q12 ?hsu28q12 ?hfu28q12 ?hru28q12 ?hQu28q12 (Or.inl ⟨?hwu28q12, ?hyu28q12⟩) ?hSu28q12 ?restu28q12
                      case hiu28q12 => (simp; rfl)
                      case hsu28q12 => kernel_rfl
                      case hfu28q12 => kernel_rfl
                      case hru28q12 => kernel_rfl
                      case hQu28q12 => exact fun _ _ _ h => h
                      case hwu28q12 => rfl
                      case hyu28q12 => (intro wq hSq; (try dsimp only at hSq); go_simp; (try with_reducible rfl))
                      case hSu28q12 => assumption
                      simp only [Act.put, List.setIfInBounds_toArray, List.set_cons_zero, List.set_cons_succ]
                      refine wpAnyH_done (by kernel_rfl) ?_ _
                      go_wp2_with fail
                      go_meet
                      case rel => exact Mm.hid ⟨by rw [show A ++ k :: B = A ++ [k] ++ B by simp]; exact HO3a.out, HB3a.out⟩
            case ru9q =>
              go_simp
              refine hK.out _ _ (trivial) (fun hHu29q => ?_)
              clear hK K
              refine wpAnyH_ready (rs := [0]) (by kernel_rfl) (by simp) ?_
              refine AllReadyH.cons (o := ?ou30q) ?hu30q (fun K hK => ?ru30q) AllReadyH.nil
              case hu30q => (simp; rfl)
              case ru30q =>
                go_simp
                refine hK.out _ _ (trivial) (fun hHu31q => ?_)
                clear hK K
                refine wpAnyH_ready (rs := [4]) (by kernel_rfl) (by simp) ?_
                refine AllReadyH.cons (o := ?ou32q) ?hu32q (fun K hK => ?ru32q) AllReadyH.nil
                case hu32q => (simp; rfl)
                case ru32q =>
                  have ho0 : ((w2.drew.alloc (.cells #[.string k] 9)).alloc (.cells #[] 9)).ownsRow w2.heap.size 9 1 (.slice (some ⟨(w2.heap.size + 1), 0, none⟩) 0 0) 0 [] := by
                    have h0 := World.ownsRow_made (base := w2.heap.size) (e := 9) (size := 1) (w2.drew.alloc (.cells #[.string k] 9)) #[] 0 (show w2.heap.size ≤ (w2.drew.alloc (.cells #[.string k] 9)).heap.size by simp) (Nat.zero_le _) rfl
                    rw [World.size_alloc] at h0
                    exact h0
                  have ho1 := ho0
                  have HO0 : Hid (Mm.Own ((w2.drew.alloc (.cells #[.string k] 9)).alloc (.cells #[] 9)) w2.heap.size 9 (.slice (some ⟨(w2.heap.size + 1), 0, none⟩) 0 0) (Lf.strs [])) := Mm.hid ho1
                  have HGR : Hid (Below w2.heap.size w2 ((w2.drew.alloc (.cells #[.string k] 9)).alloc (.cells #[] 9))) := Mm.hid ((((Below.refl _ w2).drew.alloc (by simp) _).alloc (by simp) _))
                  clear ho0 ho1
                  refine Lf.stepT rfl _ _ rfl w2.heap.size (w := ((w2.drew.alloc (.cells #[.string k] 9)).alloc (.cells #[] 9))) _ [] rfl HO0.out (some ⟨g, 0, none⟩) a cq A rfl HAL.out ((HSA.out).below HGR.out) HQN.out (by omega) (by simp) HGR.out.size ?_
                  intro v1a w1a hown1 hg1 hl1
                  rw [List.nil_append] at hown1
                  have HO1a := Mm.hid hown1
                  have HB1a : Hid (Below w2.heap.size w2 w1a) := Mm.hid (HGR.out.grown hg1 HGR.out.size (fun g hg => (Mm.Own.lt HO0.out hg).2))
                  have HT1 : Hid (w1a.heap[w2.heap.size]? = some (.cells #[.string k] 9 (0, 0))) := Mm.hid ((hg1.block w2.heap.size (by simp; try omega) (fun e => absurd (Option.some.inj e) (by first | exact Nat.succ_ne_self _ | exact (Nat.succ_ne_self _).symm))).trans ((Mm.oldAt _ _ (by simp; try omega)).trans (Mm.newAt _ _ (by simp))))
                  clear hown1 hg1 hl1
                  refine hK.out _ _ (trivial) (fun hHu33q => ?_)
                  clear hK K
                  refine wpAnyH_ready (rs := [7]) (by kernel_rfl) (by simp) ?_
                  refine AllReadyH.cons (o := ?ou34q) ?hu34q (fun K hK => ?ru34q) AllReadyH.nil
                  case hu34q => (simp; rfl)
                  case ru34q =>
                    have HOX : Hid (Mm.Own w1a w2.heap.size 9 v1a (Lf.strs A)) := Mm.hid HO1a.out
                    have HGR2 : Hid (Below w2.heap.size w2 w1a) := Mm.hid HB1a.out
                    refine Lf.step1T rfl _ _ rfl w2.heap.size (w := w1a) v1a A k rfl HOX.out w2.heap.size rfl (Mm.cellOf HT1.out rfl) (by rw [HAL.out]; omega) HGR2.out.size ?_
                    intro v2a w2a hown2 hg2 hl2
                    have HO2a := Mm.hid hown2
                    have HB2a : Hid (Below w2.heap.size w2 w2a) := Mm.hid (HGR2.out.grown hg2 HGR2.out.size (fun g hg => (HOX.out.lt hg).2))
                    clear hown2 hg2 hl2
                    refine hK.out _ _ (trivial) (fun hHu35q => ?_)
                    clear hK K
                    refine wpAnyH_ready (rs := [11]) (by kernel_rfl) (by simp) ?_
                    refine AllReadyH.cons (o := ?ou36q) ?hu36q (fun K hK => ?ru36q) AllReadyH.nil
                    case hu36q => (simp; rfl)
                    case ru36q =>
                      refine Lf.stepT rfl _ _ rfl w2.heap.size (w := w2a) v2a (A ++ [k]) rfl HO2a.out (some ⟨g, a, none⟩) (m - a) (cq - a) B (by simp [Act.eval, Act.put]; try omega) (by rw [HBL.out]) ((HSB.out).below HB2a.out) (by intro e; first | (cases e; done) | omega) (by omega) (by rw [List.length_append, HAL.out, List.length_singleton]; omega) HB2a.out.size ?_
                      intro v3a w3a hown3 hg3 hl3
                      have HO3a := Mm.hid hown3
                      have HB3a : Hid (Below w2.heap.size w2 w3a) := Mm.hid (HB2a.out.grown hg3 HB2a.out.size (fun g hg => (HO2a.out.lt hg).2))
                      clear hown3 hg3 hl3
                      refine hK.out _ _ (trivial) (fun hHu37q => ?_)
                      clear hK K
                      refine wpAnyH_take (i := 12) (oi := ?ou38q12) (v := ?vu38q12) ?hiu38q12 ?hsu38q12 ?hfu38q12 ?hru38q12 ?hQu38q12 (Or.inl ⟨?hwu38q12, ?hyu38q12⟩) ?hSu38q12 ?restu38q12
                      case hiu38q12 => (simp; rfl)
                      case hsu38q12 => kernel_rfl
                      case hfu38q12 => kernel_rfl
                      case hru38q12 => kernel_rfl
                      case hQu38q12 => exact fun _ _ _ h => h
                      case hwu38q12 => rfl
                      case hyu38q12 => (intro wq hSq; (try dsimp only at hSq); go_simp; (try with_reducible rfl))
                      case hSu38q12 => assumption
                      simp only [Act.put, List.setIfInBounds_toArray, List.set_cons_zero, List.set_cons_succ]
                      refine wpAnyH_done (by kernel_rfl) ?_ _
                      go_wp2_with fail
                      go_meet
                      case rel => exact Mm.hid ⟨by rw [show A ++ k :: B = A ++ [k] ++ B by simp]; exact HO3a.out, HB3a.out⟩
        case rest =>
          rename World => w6
          have HO6 := Mm.hid hcut.out.1
          have HB6 := Mm.hid hcut.out.2
          clear hcut
          obtain ⟨g6, n6, c6, e6, hn6, hc6⟩ := HO6.out.nonnil (by simp [Lf.strs])
          subst e6
          rw [Lf.strs_len] at hn6
          have hn6' : n6 = m + 1 := by
            rw [hn6, List.length_append, List.length_cons, HAL.out, HBL.out]
            omega
          have HN6 := Mm.hid hn6
          have HNM := Mm.hid hn6'
          clear hn6'
          have HBW6 : Hid (Below w.heap.size w w6) := Mm.hid (HB2.out.trans (HB6.out.mono HB2.out.size))
          have HM6 := Mm.hid (HM2.out.below HB6.out)
          have HX6 : Hid (w6.heap[w.heap.size]? = some (.cells #[.int .i64 0, .int .i64 0, .int .i64 0, .int .i64 0] 42 (0, 0))) := Mm.hid ((HB6.out.block _ (Mm.heapLt HX2.out)).trans HX2.out)
          have hi : s.pgs[l]? = some P := by rw [hs.out.e, HLL.out]; simp
          have HIX := Mm.hid hi
          obtain ⟨d0, -, -, -⟩ := HM6.out.rd.at_ _ P hi
          have c0 := HM6.out.rd.c0
          rw [← HN.out] at c0
          clear hn6 hi h3 h4 h5 h6 hwc
          go_upto_region 11 with fail
          go_cut [8] from 59 to 67 (fun v8 wx => v8 = .pointer (some ⟨w6.heap.size, 0, none⟩) ∧ wx = w6.alloc (.cells #[.int .i64 (P.n : Int), .int .i64 0, .int .i64 0, .int .i64 0] 42))
          case first =>
            go_wp2_with fail
            go_meet
            case rel => exact ⟨rfl, rfl⟩
          case rest =>
            obtain ⟨h8, hwx⟩ := hcut
            subst h8
            rename World => w7
            have HB7 : Hid (Below w6.heap.size w6 w7) := Mm.hid (by rw [hwx]; exact (Below.refl _ _).alloc (Nat.le_refl _) _)
            have HX7 : Hid (w7.heap[w6.heap.size]? = some (.cells #[.int .i64 (P.n : Int), .int .i64 0, .int .i64 0, .int .i64 0] 42 (0, 0))) := Mm.hid (by rw [hwx]; exact Mm.newAt _ _ rfl)
            clear hwx
            have HM7 := Mm.hid (HM6.out.below HB7.out)
            have HO7 := Mm.hid (HO6.out.below HB7.out)
            have HX7w : Hid (w7.heap[w.heap.size]? = some (.cells #[.int .i64 0, .int .i64 0, .int .i64 0, .int .i64 0] 42 (0, 0))) := Mm.hid ((HB7.out.block _ (Mm.heapLt HX6.out)).trans HX6.out)
            have HBW7 : Hid (Below w.heap.size w w7) := Mm.hid (HBW6.out.trans (HB7.out.mono HBW6.out.size))
            have HSZ : Hid (w.heap.size < w6.heap.size) := Mm.hid (Mm.heapLt HX6.out)
            have f1 := HM7.out.rd.c1
            clear c0 d0
            obtain ⟨hh, hhe⟩ : ∃ hh, hh = Lf.half (A ++ k :: B) := ⟨_, rfl⟩
            have hfn := hf.out
            have hF2 := hI.out.f1
            have hlen := HN6.out
            have hf1 : ¬ ((n6 : Int) ≤ (s.fan : Int)) := by omega
            have hh1 : 1 ≤ hh ∧ hh < n6 := by
              rw [hhe]
              unfold Lf.half
              omega
            have hhq : hh = (n6 + 1) / 2 := by rw [hhe, hlen]; rfl
            obtain ⟨mk, hmk⟩ : ∃ mk, (A ++ k :: B)[hh]? = some mk := ⟨(A ++ k :: B)[hh]'(by omega), List.getElem?_eq_getElem _⟩
            have HMK := Mm.hid hmk
            have HHE := Mm.hid hhe
            have HH1 := Mm.hid hh1
            have hn64 : n6 ≤ 65 := by have := HNM.out; omega
            have HN65 := Mm.hid hn64
            have HSD : Hid (Lf.SIn w7 (some ⟨g6, hh, none⟩) ((A ++ k :: B).drop hh)) := Mm.hid (fun j x hx => by
              rw [List.getElem?_drop] at hx
              have h9 := HO7.out.cell (Lf.strs_at hx)
              exact ⟨g6, hh, rfl, World.block_lt_of_cell? _ _ h9.1, h9.1⟩)
            have HS2 : Hid (∀ w', Below w7.heap.size w7 w' → w'.cell? ⟨p, 2, none⟩ = some (.int .i64 ((s.last : Int) + 1)) ∧ w'.cell? ⟨g6, hh, none⟩ = some (.string mk)) := Mm.hid (fun w' hb => by
              have h9 := (HO7.out.cell (Lf.strs_at hmk)).1
              exact ⟨(Mm.belAt hb _ (Mm.heapLt HM7.out.head)).trans HM7.out.rd.c2, (Mm.belAt hb _ (World.block_lt_of_cell? _ _ h9)).trans h9⟩)
            clear hfn hF2 hlen hmk hhe hh1 hn64
            go_upto_region 15 with fail
            go_cut [9] from 84 to 87 (fun v9 wx => v9 = .int .i64 (hh : Int) ∧ wx = w7)
            case first =>
              go_wp2_with fail
              go_meet
              case rel =>
                exact ⟨congrArg (Value.int .i64) (Lf.half_num hhq HN65.out), rfl⟩
            case rest =>
              obtain ⟨h9, hwx⟩ := hcut
              subst h9
              have hwx' := hwx.symm
              subst hwx'
              clear hwx f1 hhq hf1
              obtain ⟨hh1, hh2⟩ := HH1.out
              have hc6' : hh < c6 := by omega
              have k1 : (0 : Int) ≤ (hh : Int) := by omega
              have k2 : (hh : Int) < (n6 : Int) := by omega
              have k3 : (hh : Int) ≤ (n6 : Int) := by omega
              have k4 : (n6 : Int) ≤ (c6 : Int) := by omega
              have k5 : (hh : Int) < (c6 : Int) := by omega
              have hn64 := HN65.out
              go_upto_region 16 with fail
              go_cut [10] from 88 to 101 (fun v10 wx => ∃ d10 vk, v10 = .pointer (some ⟨d10, 0, none⟩) ∧ Hid (wx.heap[d10]? = some (.cells #[.int .i64 ((s.last : Int) + 1), .bool false, .string mk, vk] 91 (0, 0)) ∧ Mm.Own wx w7.heap.size 9 vk (Lf.strs ((A ++ k :: B).drop hh)) ∧ Below w7.heap.size w7 wx ∧ w7.heap.size ≤ d10))
              case first =>
                refine wp_region_held_drew (S := fun w' => w'.cell? ⟨p, 2, none⟩ = some (.int .i64 ((s.last : Int) + 1)) ∧ w'.cell? ⟨g6, hh, none⟩ = some (.string mk)) (by kernel_rfl) (HS2.out _ (Below.refl _ w7).drew) (fun hH => ?_)
                refine wpAnyH_take (i := 0) (oi := ?ov1q0) (v := ?vv1q0) ?hiv1q0 ?hsv1q0 ?hfv1q0 ?hrv1q0 ?hQv1q0 (Or.inl ⟨?hwv1q0, ?hyv1q0⟩) ?hSv1q0 ?restv1q0
                case hiv1q0 => (simp; rfl)
                case hsv1q0 => kernel_rfl
                case hfv1q0 => kernel_rfl
                case hrv1q0 => kernel_rfl
                case hQv1q0 => exact fun _ _ _ h => h
                case hwv1q0 => rfl
                case hyv1q0 => (intro wq hSq; (try dsimp only at hSq); go_simp; (try with_reducible rfl))
                case hSv1q0 => assumption
                simp only [Act.put, List.setIfInBounds_toArray, List.set_cons_zero, List.set_cons_succ]
                refine wpAnyH_take (i := 1) (oi := ?ov2q1) (v := ?vv2q1) ?hiv2q1 ?hsv2q1 ?hfv2q1 ?hrv2q1 ?hQv2q1 (Or.inl ⟨?hwv2q1, ?hyv2q1⟩) ?hSv2q1 ?restv2q1
                case hiv2q1 => (simp; rfl)
                case hsv2q1 => kernel_rfl
                case hfv2q1 => kernel_rfl
                case hrv2q1 => kernel_rfl
                case hQv2q1 => exact fun _ _ _ h => h
                case hwv2q1 => rfl
                case hyv2q1 => (intro wq hSq; (try dsimp only at hSq); go_simp; (try with_reducible rfl))
                case hSv2q1 => assumption
                simp only [Act.put, List.setIfInBounds_toArray, List.set_cons_zero, List.set_cons_succ]
                refine wpAnyH_take (i := 2) (oi := ?ov3q2) (v := ?vv3q2) ?hiv3q2 ?hsv3q2 ?hfv3q2 ?hrv3q2 ?hQv3q2 (Or.inl ⟨?hwv3q2, ?hyv3q2⟩) ?hSv3q2 ?restv3q2
                case hiv3q2 => (simp; rfl)
                case hsv3q2 => kernel_rfl
                case hfv3q2 => kernel_rfl
                case hrv3q2 => kernel_rfl
                case hQv3q2 => exact fun _ _ _ h => h
                case hwv3q2 => rfl
                case hyv3q2 => (intro wq hSq; (try dsimp only at hSq); go_simp; (try with_reducible rfl))
                case hSv3q2 => assumption
                simp only [Act.put, List.setIfInBounds_toArray, List.set_cons_zero, List.set_cons_succ]
                refine wpAnyH_take (i := 3) (oi := ?ov4q3) (v := ?vv4q3) ?hiv4q3 ?hsv4q3 ?hfv4q3 ?hrv4q3 ?hQv4q3 (Or.inl ⟨?hwv4q3, ?hyv4q3⟩) ?hSv4q3 ?restv4q3
                case hiv4q3 => (simp; rfl)
                case hsv4q3 => kernel_rfl
                case hfv4q3 => kernel_rfl
                case hrv4q3 => kernel_rfl
                case hQv4q3 => exact fun _ _ _ h => h
                case hwv4q3 => rfl
                case hyv4q3 => (intro wq hSq; (try dsimp only at hSq); go_simp; (try with_reducible rfl))
                case hSv4q3 => assumption
                simp only [Act.put, List.setIfInBounds_toArray, List.set_cons_zero, List.set_cons_succ]
                refine wpAnyH_take (i := 4) (oi := ?ov5q4) (v := ?vv5q4) ?hiv5q4 ?hsv5q4 ?hfv5q4 ?hrv5q4 ?hQv5q4 (Or.inl ⟨?hwv5q4, ?hyv5q4⟩) ?hSv5q4 ?restv5q4
                case hiv5q4 => (simp; rfl)
                case hsv5q4 => kernel_rfl
                case hfv5q4 => kernel_rfl
                case hrv5q4 => kernel_rfl
                case hQv5q4 => exact fun _ _ _ h => h
                case hwv5q4 => rfl
                case hyv5q4 => (intro wq hSq; (try dsimp only at hSq); go_simp; (try with_reducible rfl))
                case hSv5q4 => assumption
                simp only [Act.put, List.setIfInBounds_toArray, List.set_cons_zero, List.set_cons_succ]
                refine wpAnyH_take (i := 5) (oi := ?ov6q5) (v := ?vv6q5) ?hiv6q5 ?hsv6q5 ?hfv6q5 ?hrv6q5 ?hQv6q5 (Or.inl ⟨?hwv6q5, ?hyv6q5⟩) ?hSv6q5 ?restv6q5
                case hiv6q5 => (simp; rfl)
                case hsv6q5 => kernel_rfl
                case hfv6q5 => kernel_rfl
                case hrv6q5 => kernel_rfl
                case hQv6q5 => exact fun _ _ _ h => h
                case hwv6q5 => rfl
                case hyv6q5 => (intro wq hSq; (try dsimp only at hSq); go_simp; (try with_reducible rfl))
                case hSv6q5 => assumption
                simp only [Act.put, List.setIfInBounds_toArray, List.set_cons_zero, List.set_cons_succ]
                refine wpAnyH_take (i := 6) (oi := ?ov7q6) (v := ?vv7q6) ?hiv7q6 ?hsv7q6 ?hfv7q6 ?hrv7q6 ?hQv7q6 (Or.inl ⟨?hwv7q6, ?hyv7q6⟩) ?hSv7q6 ?restv7q6
                case hiv7q6 => (simp; rfl)
                case hsv7q6 => kernel_rfl
                case hfv7q6 => kernel_rfl
                case hrv7q6 => kernel_rfl
                case hQv7q6 => exact fun _ _ _ h => h
                case hwv7q6 => rfl
                case hyv7q6 => (intro wq hSq; (try dsimp only at hSq); go_simp; (try with_reducible rfl))
                case hSv7q6 => assumption
                simp only [Act.put, List.setIfInBounds_toArray, List.set_cons_zero, List.set_cons_succ]
                refine wpAnyH_take (i := 7) (oi := ?ov8q7) (v := ?vv8q7) ?hiv8q7 ?hsv8q7 ?hfv8q7 ?hrv8q7 ?hQv8q7 (Or.inl ⟨?hwv8q7, ?hyv8q7⟩) ?hSv8q7 ?restv8q7
                case hiv8q7 => (simp; rfl)
                case hsv8q7 => kernel_rfl
                case hfv8q7 => kernel_rfl
                case hrv8q7 => kernel_rfl
                case hQv8q7 => exact fun _ _ _ h => h
                case hwv8q7 => rfl
                case hyv8q7 => (intro wq hSq; (try dsimp only at hSq); go_simp; (try with_reducible rfl))
                case hSv8q7 => assumption
                simp only [Act.put, List.setIfInBounds_toArray, List.set_cons_zero, List.set_cons_succ]
                refine wpAnyH_take (i := 9) (oi := ?ov9q9) (v := ?vv9q9) ?hiv9q9 ?hsv9q9 ?hfv9q9 ?hrv9q9 ?hQv9q9 (Or.inl ⟨?hwv9q9, ?hyv9q9⟩) ?hSv9q9 ?restv9q9
                case hiv9q9 => (simp; rfl)
                case hsv9q9 => kernel_rfl
                case hfv9q9 => kernel_rfl
                case hrv9q9 => kernel_rfl
                case hQv9q9 => exact fun _ _ _ h => h
                case hwv9q9 => rfl
                case hyv9q9 => (intro wq hSq; (try dsimp only at hSq); go_simp; (try with_reducible rfl))
                case hSv9q9 => assumption
                simp only [Act.put, List.setIfInBounds_toArray, List.set_cons_zero, List.set_cons_succ]
                refine wpAnyH_take (i := 10) (oi := ?ov10q10) (v := ?vv10q10) ?hiv10q10 ?hsv10q10 ?hfv10q10 ?hrv10q10 ?hQv10q10 (Or.inl ⟨?hwv10q10, ?hyv10q10⟩) ?hSv10q10 ?restv10q10
                case hiv10q10 => (simp; rfl)
                case hsv10q10 => kernel_rfl
                case hfv10q10 => kernel_rfl
                case hrv10q10 => kernel_rfl
                case hQv10q10 => exact fun _ _ _ h => h
                case hwv10q10 => rfl
                case hyv10q10 => (intro wq hSq; (try dsimp only at hSq); go_simp; (try with_reducible rfl))
                case hSv10q10 => assumption
                simp only [Act.put, List.setIfInBounds_toArray, List.set_cons_zero, List.set_cons_succ]
                refine wpAnyH_take (i := 11) (oi := ?ov11q11) (v := ?vv11q11) ?hiv11q11 ?hsv11q11 ?hfv11q11 ?hrv11q11 ?hQv11q11 (Or.inl ⟨?hwv11q11, ?hyv11q11⟩) ?hSv11q11 ?restv11q11
                case hiv11q11 => (simp; rfl)
                case hsv11q11 => kernel_rfl
                case hfv11q11 => kernel_rfl
                case hrv11q11 => kernel_rfl
                case hQv11q11 => exact fun _ _ _ h => h
                case hwv11q11 => rfl
                case hyv11q11 => (intro wq hSq; (try dsimp only at hSq); go_simp; (try with_reducible rfl))
                case hSv11q11 => assumption
                simp only [Act.put, List.setIfInBounds_toArray, List.set_cons_zero, List.set_cons_succ]
                refine wpAnyH_ready (rs := [8, 14]) (by kernel_rfl) (by simp) ?_
                refine AllReadyH.cons (o := ?ov12q) ?hv12q (fun K hK => ?rv12q) (AllReadyH.cons (o := ?ov13q) ?hv13q (fun K hK => ?rv13q) AllReadyH.nil)
                case hv12q => (simp; rfl)
                case hv13q => (simp; rfl)
                case rv12q =>
                  go_simp
                  refine hK.out _ _ (HS2.out _ ((Below.refl _ w7).drew.alloc (by simp) _)) (fun hHv14q => ?_)
                  clear hK K
                  refine wpAnyH_ready (rs := [12, 14]) (by kernel_rfl) (by simp) ?_
                  refine AllReadyH.cons (o := ?ov15q) ?hv15q (fun K hK => ?rv15q) (AllReadyH.cons (o := ?ov16q) ?hv16q (fun K hK => ?rv16q) AllReadyH.nil)
                  case hv15q => (simp; rfl)
                  case hv16q => (simp; rfl)
                  case rv15q =>
                    have ho0 : (w7.drew.alloc (.cells #[] 9)).ownsRow w7.heap.size 9 1 (.slice (some ⟨w7.heap.size, 0, none⟩) 0 0) 0 [] := World.ownsRow_made w7.drew #[] 0 (show w7.heap.size ≤ w7.drew.heap.size by simp) (Nat.zero_le _) rfl
                    have ho1 := ho0
                    have HO0 : Hid (Mm.Own (w7.drew.alloc (.cells #[] 9)) w7.heap.size 9 (.slice (some ⟨w7.heap.size, 0, none⟩) 0 0) (Lf.strs [])) := Mm.hid ho1
                    have HGR : Hid (Below w7.heap.size w7 (w7.drew.alloc (.cells #[] 9))) := Mm.hid (((Below.refl _ w7).drew.alloc (by simp) _))
                    clear ho0 ho1
                    refine Lf.stepT rfl _ _ rfl w7.heap.size (w := (w7.drew.alloc (.cells #[] 9))) _ [] rfl HO0.out (some ⟨g6, hh, none⟩) (n6 - hh) (c6 - hh) ((A ++ k :: B).drop hh) (by simp [Act.eval]; try omega) (by rw [List.length_drop, HN6.out]) ((HSD.out).below HGR.out) (fun e => nomatch e) (by omega) (by simp) HGR.out.size ?_
                    intro v1b w1b hown1 hg1 hl1
                    rw [List.nil_append] at hown1
                    have HO1b := Mm.hid hown1
                    have HB1b : Hid (Below w7.heap.size w7 w1b) := Mm.hid (HGR.out.grown hg1 HGR.out.size (fun g hg => (Mm.Own.lt HO0.out hg).2))
                    obtain ⟨q5, k5, ev5, _⟩ := hown1.shape
                    obtain ⟨L5, hL5⟩ : ∃ L5, L5 = (Lf.strs ((A ++ k :: B).drop hh)).length := ⟨_, rfl⟩
                    rw [← hL5] at ev5
                    subst ev5
                    clear hown1 hg1 hl1 hL5
                    refine hK.out _ _ (HS2.out _ HB1b.out) (fun hHv17q => ?_)
                    clear hK K
                    refine wpAnyH_take (i := 13) (oi := ?ov18q13) (v := ?vv18q13) ?hiv18q13 ?hsv18q13 ?hfv18q13 ?hrv18q13 ?hQv18q13 (Or.inl ⟨?hwv18q13, ?hyv18q13⟩) ?hSv18q13 ?restv18q13
                    case hiv18q13 => (simp; rfl)
                    case hsv18q13 => kernel_rfl
                    case hfv18q13 => kernel_rfl
                    case hrv18q13 => kernel_rfl
                    case hQv18q13 => exact fun _ _ _ h => h
                    case hwv18q13 => rfl
                    case hyv18q13 => (intro wq hSq; (try dsimp only at hSq); go_simp; (try with_reducible rfl))
                    case hSv18q13 => assumption
                    simp only [Act.put, List.setIfInBounds_toArray, List.set_cons_zero, List.set_cons_succ]
                    refine wpAnyH_ready (rs := [14]) (by kernel_rfl) (by simp) ?_
                    refine AllReadyH.cons (o := ?ov19q) ?hv19q (fun K hK => ?rv19q) AllReadyH.nil
                    case hv19q => (simp; rfl)
                    case rv19q =>
                      go_simp
                      refine hK.out _ _ (HS2.out _ (HB1b.out.alloc HB1b.out.size _)) (fun hHv20q => ?_)
                      clear hK K
                      refine wpAnyH_ready (rs := [15]) (by kernel_rfl) (by simp) ?_
                      refine AllReadyH.cons (o := ?ov21q) ?hv21q (fun K hK => ?rv21q) AllReadyH.nil
                      case hv21q => (simp; rfl)
                      case rv21q =>
                        have HB5 : Hid (Below w7.heap.size w7 (w1b.alloc (.cells #[.int .i64 ((s.last : Int) + 1), .bool false, .string mk, .slice q5 L5 k5] 91))) := Mm.hid (HB1b.out.alloc HB1b.out.size _)
                        go_simp
                        refine hK.out _ _ (HS2.out _ HB5.out) (fun hHv22q => ?_)
                        clear hK K
                        refine wpAnyH_done (by kernel_rfl) ?_ _
                        go_wp2_with fail
                        go_meet
                        case rel =>
                          have h9 := Lf.fresh9 (Mm.newAt w1b _ rfl) (HO1b.out.below ((Below.refl _ _).alloc (Nat.le_refl _) _)) HB1b.out.size HB5.out
                          exact ⟨_, _, rfl, Mm.hid h9⟩
                  case rv16q =>
                    go_simp
                    refine hK.out _ _ (HS2.out _ (((Below.refl _ w7).drew.alloc (by simp) _).alloc (by simp) _)) (fun hHv23q => ?_)
                    clear hK K
                    refine wpAnyH_ready (rs := [12]) (by kernel_rfl) (by simp) ?_
                    refine AllReadyH.cons (o := ?ov24q) ?hv24q (fun K hK => ?rv24q) AllReadyH.nil
                    case hv24q => (simp; rfl)
                    case rv24q =>
                      have ho0 : (w7.drew.alloc (.cells #[] 9)).ownsRow w7.heap.size 9 1 (.slice (some ⟨w7.heap.size, 0, none⟩) 0 0) 0 [] := World.ownsRow_made w7.drew #[] 0 (show w7.heap.size ≤ w7.drew.heap.size by simp) (Nat.zero_le _) rfl
                      have ho1 : ((w7.drew.alloc (.cells #[] 9)).alloc (.cells #[.int .i64 0, .bool false, .string ⟨#[]⟩, .slice none 0 0] 91)).ownsRow w7.heap.size 9 1 (.slice (some ⟨w7.heap.size, 0, none⟩) 0 0) 0 [] := Mm.Own.below ho0 ((Below.refl _ _).alloc (Nat.le_refl _) _)
                      have HO0 : Hid (Mm.Own ((w7.drew.alloc (.cells #[] 9)).alloc (.cells #[.int .i64 0, .bool false, .string ⟨#[]⟩, .slice none 0 0] 91)) w7.heap.size 9 (.slice (some ⟨w7.heap.size, 0, none⟩) 0 0) (Lf.strs [])) := Mm.hid ho1
                      have HGR : Hid (Below w7.heap.size w7 ((w7.drew.alloc (.cells #[] 9)).alloc (.cells #[.int .i64 0, .bool false, .string ⟨#[]⟩, .slice none 0 0] 91))) := Mm.hid ((((Below.refl _ w7).drew.alloc (by simp) _).alloc (by simp) _))
                      clear ho0 ho1
                      refine Lf.stepT rfl _ _ rfl w7.heap.size (w := ((w7.drew.alloc (.cells #[] 9)).alloc (.cells #[.int .i64 0, .bool false, .string ⟨#[]⟩, .slice none 0 0] 91))) _ [] rfl HO0.out (some ⟨g6, hh, none⟩) (n6 - hh) (c6 - hh) ((A ++ k :: B).drop hh) (by simp [Act.eval]; try omega) (by rw [List.length_drop, HN6.out]) ((HSD.out).below HGR.out) (fun e => nomatch e) (by omega) (by simp) HGR.out.size ?_
                      intro v1b w1b hown1 hg1 hl1
                      rw [List.nil_append] at hown1
                      have HO1b := Mm.hid hown1
                      have HB1b : Hid (Below w7.heap.size w7 w1b) := Mm.hid (HGR.out.grown hg1 HGR.out.size (fun g hg => (Mm.Own.lt HO0.out hg).2))
                      have HL1 : Hid (w1b.heap[(w7.heap.size + 1)]? = some (.cells #[.int .i64 0, .bool false, .string ⟨#[]⟩, .slice none 0 0] 91 (0, 0))) := Mm.hid ((hg1.block (w7.heap.size + 1) (by simp; try omega) (fun e => absurd (Option.some.inj e) (by first | exact Nat.succ_ne_self _ | exact (Nat.succ_ne_self _).symm))).trans (Mm.newAt _ _ (by simp)))
                      have HLV : Hid (∀ g, v1b.ownBlock = some g → g ≠ (w7.heap.size + 1)) := Mm.hid (fun g hg => by
                        rcases hl1 with e | e
                        · rw [e] at hg
                          have h9 : w7.heap.size = g := Option.some.inj hg
                          omega
                        · have h9 := e g hg
                          simp at h9
                          omega)
                      obtain ⟨q5, k5, ev5, _⟩ := hown1.shape
                      obtain ⟨L5, hL5⟩ : ∃ L5, L5 = (Lf.strs ((A ++ k :: B).drop hh)).length := ⟨_, rfl⟩
                      rw [← hL5] at ev5
                      subst ev5
                      clear hown1 hg1 hl1 hL5
                      refine hK.out _ _ (HS2.out _ HB1b.out) (fun hHv25q => ?_)
                      clear hK K
                      refine wpAnyH_take (i := 13) (oi := ?ov26q13) (v := ?vv26q13) ?hiv26q13 ?hsv26q13 ?hfv26q13 ?hrv26q13 ?hQv26q13 (Or.inl ⟨?hwv26q13, ?hyv26q13⟩) ?hSv26q13 ?restv26q13
                      case hiv26q13 => (simp; rfl)
                      case hsv26q13 => kernel_rfl
                      case hfv26q13 => kernel_rfl
                      case hrv26q13 => kernel_rfl
                      case hQv26q13 => exact fun _ _ _ h => h
                      case hwv26q13 => rfl
                      case hyv26q13 => (intro wq hSq; (try dsimp only at hSq); go_simp; (try with_reducible rfl))
                      case hSv26q13 => assumption
                      simp only [Act.put, List.setIfInBounds_toArray, List.set_cons_zero, List.set_cons_succ]
                      refine wpAnyH_ready (rs := [15]) (by kernel_rfl) (by simp) ?_
                      refine AllReadyH.cons (o := ?ov27q) ?hv27q (fun K hK => ?rv27q) AllReadyH.nil
                      case hv27q => (simp; rfl)
                      case rv27q =>
                        have y0 : w1b.cell? ⟨(w7.heap.size + 1), 0, none⟩ = some (.int .i64 0) := Mm.cellOf HL1.out rfl
                        have z0 : w1b.frozen? ⟨(w7.heap.size + 1), 0, none⟩ = false := by simp [World.frozen?, HL1.out]
                        have y1 : w1b.cell? ⟨(w7.heap.size + 1), 1, none⟩ = some (.bool false) := Mm.cellOf HL1.out rfl
                        have z1 : w1b.frozen? ⟨(w7.heap.size + 1), 1, none⟩ = false := by simp [World.frozen?, HL1.out]
                        have y2 : w1b.cell? ⟨(w7.heap.size + 1), 2, none⟩ = some (.string ⟨#[]⟩) := Mm.cellOf HL1.out rfl
                        have z2 : w1b.frozen? ⟨(w7.heap.size + 1), 2, none⟩ = false := by simp [World.frozen?, HL1.out]
                        have y3 : w1b.cell? ⟨(w7.heap.size + 1), 3, none⟩ = some (.slice none 0 0) := Mm.cellOf HL1.out rfl
                        have z3 : w1b.frozen? ⟨(w7.heap.size + 1), 3, none⟩ = false := by simp [World.frozen?, HL1.out]
                        have HB5 : Hid (Below w7.heap.size w7 ((((w1b.setCell ⟨(w7.heap.size + 1), 0, none⟩ (.int .i64 ((s.last : Int) + 1))).setCell ⟨(w7.heap.size + 1), 1, none⟩ (.bool false)).setCell ⟨(w7.heap.size + 1), 2, none⟩ (.string mk)).setCell ⟨(w7.heap.size + 1), 3, none⟩ (.slice q5 L5 k5))) := Mm.hid (Below.setCell (Below.setCell (Below.setCell (Below.setCell HB1b.out (p := ⟨(w7.heap.size + 1), 0, none⟩) (by show w7.heap.size ≤ (w7.heap.size + 1); omega) (.int .i64 ((s.last : Int) + 1))) (p := ⟨(w7.heap.size + 1), 1, none⟩) (by show w7.heap.size ≤ (w7.heap.size + 1); omega) (.bool false)) (p := ⟨(w7.heap.size + 1), 2, none⟩) (by show w7.heap.size ≤ (w7.heap.size + 1); omega) (.string mk)) (p := ⟨(w7.heap.size + 1), 3, none⟩) (by show w7.heap.size ≤ (w7.heap.size + 1); omega) (.slice q5 L5 k5))
                        go_simp
                        clear y0 y1 y2 y3 z0 z1 z2 z3
                        refine hK.out _ _ (HS2.out _ HB5.out) (fun hHv28q => ?_)
                        clear hK K
                        refine wpAnyH_done (by kernel_rfl) ?_ _
                        go_wp2_with fail
                        go_meet
                        case rel =>
                          have h9 := Lf.fresh9 (Lf.set4 HL1.out) (HO1b.out.keep (fun g hg => (heap_setCell_other _ _ _ _ (HLV.out g hg)).trans ((heap_setCell_other _ _ _ _ (HLV.out g hg)).trans ((heap_setCell_other _ _ _ _ (HLV.out g hg)).trans (heap_setCell_other _ _ _ _ (HLV.out g hg)))))) (by omega) HB5.out
                          exact ⟨_, _, rfl, Mm.hid h9⟩
                case rv13q =>
                  go_simp
                  refine hK.out _ _ (HS2.out _ ((Below.refl _ w7).drew.alloc (by simp) _)) (fun hHv29q => ?_)
                  clear hK K
                  refine wpAnyH_ready (rs := [8]) (by kernel_rfl) (by simp) ?_
                  refine AllReadyH.cons (o := ?ov30q) ?hv30q (fun K hK => ?rv30q) AllReadyH.nil
                  case hv30q => (simp; rfl)
                  case rv30q =>
                    go_simp
                    refine hK.out _ _ (HS2.out _ (((Below.refl _ w7).drew.alloc (by simp) _).alloc (by simp) _)) (fun hHv31q => ?_)
                    clear hK K
                    refine wpAnyH_ready (rs := [12]) (by kernel_rfl) (by simp) ?_
                    refine AllReadyH.cons (o := ?ov32q) ?hv32q (fun K hK => ?rv32q) AllReadyH.nil
                    case hv32q => (simp; rfl)
                    case rv32q =>
                      have ho0 : ((w7.drew.alloc (.cells #[.int .i64 0, .bool false, .string ⟨#[]⟩, .slice none 0 0] 91)).alloc (.cells #[] 9)).ownsRow w7.heap.size 9 1 (.slice (some ⟨(w7.heap.size + 1), 0, none⟩) 0 0) 0 [] := by
                        have h0 := World.ownsRow_made (base := w7.heap.size) (e := 9) (size := 1) (w7.drew.alloc (.cells #[.int .i64 0, .bool false, .string ⟨#[]⟩, .slice none 0 0] 91)) #[] 0 (show w7.heap.size ≤ (w7.drew.alloc (.cells #[.int .i64 0, .bool false, .string ⟨#[]⟩, .slice none 0 0] 91)).heap.size by simp) (Nat.zero_le _) rfl
                        rw [World.size_alloc] at h0
                        exact h0
                      have ho1 := ho0
                      have HO0 : Hid (Mm.Own ((w7.drew.alloc (.cells #[.int .i64 0, .bool false, .string ⟨#[]⟩, .slice none 0 0] 91)).alloc (.cells #[] 9)) w7.heap.size 9 (.slice (some ⟨(w7.heap.size + 1), 0, none⟩) 0 0) (Lf.strs [])) := Mm.hid ho1
                      have HGR : Hid (Below w7.heap.size w7 ((w7.drew.alloc (.cells #[.int .i64 0, .bool false, .string ⟨#[]⟩, .slice none 0 0] 91)).alloc (.cells #[] 9))) := Mm.hid ((((Below.refl _ w7).drew.alloc (by simp) _).alloc (by simp) _))
                      clear ho0 ho1
                      refine Lf.stepT rfl _ _ rfl w7.heap.size (w := ((w7.drew.alloc (.cells #[.int .i64 0, .bool false, .string ⟨#[]⟩, .slice none 0 0] 91)).alloc (.cells #[] 9))) _ [] rfl HO0.out (some ⟨g6, hh, none⟩) (n6 - hh) (c6 - hh) ((A ++ k :: B).drop hh) (by simp [Act.eval]; try omega) (by rw [List.length_drop, HN6.out]) ((HSD.out).below HGR.out) (fun e => nomatch e) (by omega) (by simp) HGR.out.size ?_
                      intro v1b w1b hown1 hg1 hl1
                      rw [List.nil_append] at hown1
                      have HO1b := Mm.hid hown1
                      have HB1b : Hid (Below w7.heap.size w7 w1b) := Mm.hid (HGR.out.grown hg1 HGR.out.size (fun g hg => (Mm.Own.lt HO0.out hg).2))
                      have HL1 : Hid (w1b.heap[w7.heap.size]? = some (.cells #[.int .i64 0, .bool false, .string ⟨#[]⟩, .slice none 0 0] 91 (0, 0))) := Mm.hid ((hg1.block w7.heap.size (by simp; try omega) (fun e => absurd (Option.some.inj e) (by first | exact Nat.succ_ne_self _ | exact (Nat.succ_ne_self _).symm))).trans ((Mm.oldAt _ _ (by simp; try omega)).trans (Mm.newAt _ _ (by simp))))
                      have HLV : Hid (∀ g, v1b.ownBlock = some g → g ≠ w7.heap.size) := Mm.hid (fun g hg => by
                        rcases hl1 with e | e
                        · rw [e] at hg
                          have h9 : (w7.heap.size + 1) = g := Option.some.inj hg
                          omega
                        · have h9 := e g hg
                          simp at h9
                          omega)
                      obtain ⟨q5, k5, ev5, _⟩ := hown1.shape
                      obtain ⟨L5, hL5⟩ : ∃ L5, L5 = (Lf.strs ((A ++ k :: B).drop hh)).length := ⟨_, rfl⟩
                      rw [← hL5] at ev5
                      subst ev5
                      clear hown1 hg1 hl1 hL5
                      refine hK.out _ _ (HS2.out _ HB1b.out) (fun hHv33q => ?_)
                      clear hK K
                      refine wpAnyH_take (i := 13) (oi := ?ov34q13) (v := ?vv34q13) ?hiv34q13 ?hsv34q13 ?hfv34q13 ?hrv34q13 ?hQv34q13 (Or.inl ⟨?hwv34q13, ?hyv34q13⟩) ?hSv34q13 ?restv34q13
                      case hiv34q13 => (simp; rfl)
                      case hsv34q13 => kernel_rfl
                      case hfv34q13 => kernel_rfl
                      case hrv34q13 => kernel_rfl
                      case hQv34q13 => exact fun _ _ _ h => h
                      case hwv34q13 => rfl
                      case hyv34q13 => (intro wq hSq; (try dsimp only at hSq); go_simp; (try with_reducible rfl))
                      case hSv34q13 => assumption
                      simp only [Act.put, List.setIfInBounds_toArray, List.set_cons_zero, List.set_cons_succ]
                      refine wpAnyH_ready (rs := [15]) (by kernel_rfl) (by simp) ?_
                      refine AllReadyH.cons (o := ?ov35q) ?hv35q (fun K hK => ?rv35q) AllReadyH.nil
                      case hv35q => (simp; rfl)
                      case rv35q =>
                        have y0 : w1b.cell? ⟨w7.heap.size, 0, none⟩ = some (.int .i64 0) := Mm.cellOf HL1.out rfl
                        have z0 : w1b.frozen? ⟨w7.heap.size, 0, none⟩ = false := by simp [World.frozen?, HL1.out]
                        have y1 : w1b.cell? ⟨w7.heap.size, 1, none⟩ = some (.bool false) := Mm.cellOf HL1.out rfl
                        have z1 : w1b.frozen? ⟨w7.heap.size, 1, none⟩ = false := by simp [World.frozen?, HL1.out]
                        have y2 : w1b.cell? ⟨w7.heap.size, 2, none⟩ = some (.string ⟨#[]⟩) := Mm.cellOf HL1.out rfl
                        have z2 : w1b.frozen? ⟨w7.heap.size, 2, none⟩ = false := by simp [World.frozen?, HL1.out]
                        have y3 : w1b.cell? ⟨w7.heap.size, 3, none⟩ = some (.slice none 0 0) := Mm.cellOf HL1.out rfl
                        have z3 : w1b.frozen? ⟨w7.heap.size, 3, none⟩ = false := by simp [World.frozen?, HL1.out]
                        have HB5 : Hid (Below w7.heap.size w7 ((((w1b.setCell ⟨w7.heap.size, 0, none⟩ (.int .i64 ((s.last : Int) + 1))).setCell ⟨w7.heap.size, 1, none⟩ (.bool false)).setCell ⟨w7.heap.size, 2, none⟩ (.string mk)).setCell ⟨w7.heap.size, 3, none⟩ (.slice q5 L5 k5))) := Mm.hid (Below.setCell (Below.setCell (Below.setCell (Below.setCell HB1b.out (p := ⟨w7.heap.size, 0, none⟩) (by show w7.heap.size ≤ w7.heap.size; omega) (.int .i64 ((s.last : Int) + 1))) (p := ⟨w7.heap.size, 1, none⟩) (by show w7.heap.size ≤ w7.heap.size; omega) (.bool false)) (p := ⟨w7.heap.size, 2, none⟩) (by show w7.heap.size ≤ w7.heap.size; omega) (.string mk)) (p := ⟨w7.heap.size, 3, none⟩) (by show w7.heap.size ≤ w7.heap.size; omega) (.slice q5 L5 k5))
                        go_simp
                        clear y0 y1 y2 y3 z0 z1 z2 z3
                        refine hK.out _ _ (HS2.out _ HB5.out) (fun hHv36q => ?_)
                        clear hK K
                        refine wpAnyH_done (by kernel_rfl) ?_ _
                        go_wp2_with fail
                        go_meet
                        case rel =>
                          have h9 := Lf.fresh9 (Lf.set4 HL1.out) (HO1b.out.keep (fun g hg => (heap_setCell_other _ _ _ _ (HLV.out g hg)).trans ((heap_setCell_other _ _ _ _ (HLV.out g hg)).trans ((heap_setCell_other _ _ _ _ (HLV.out g hg)).trans (heap_setCell_other _ _ _ _ (HLV.out g hg)))))) (by omega) HB5.out
                          exact ⟨_, _, rfl, Mm.hid h9⟩
              case rest =>
                obtain ⟨d10, vk, h10, hF⟩ := hcut
                subst h10
                rename World => w8
                have HB8 : Hid (Below w7.heap.size w7 w8) := Mm.hid hF.out.2.2.1
                have HX10 : Hid (w8.heap[d10]? = some (.cells #[.int .i64 ((s.last : Int) + 1), .bool false, .string mk, vk] 91 (0, 0))) := Mm.hid hF.out.1
                have HK10 := Mm.hid hF.out.2.1
                have HD10 : Hid (w7.heap.size ≤ d10) := Mm.hid hF.out.2.2.2
                clear hF
                obtain ⟨qv, kv, evk, _⟩ := HK10.out.shape
                obtain ⟨Lv, hLv⟩ : ∃ Lv, Lv = (Lf.strs ((A ++ k :: B).drop hh)).length := ⟨_, rfl⟩
                rw [← hLv] at evk
                subst evk
                clear hLv
                have HM8 := Mm.hid (HM7.out.below HB8.out)
                have HO8 := Mm.hid (HO7.out.below HB8.out)
                have HX8 : Hid (w8.heap[w6.heap.size]? = some (.cells #[.int .i64 (P.n : Int), .int .i64 0, .int .i64 0, .int .i64 0] 42 (0, 0))) := Mm.hid ((HB8.out.block _ (Mm.heapLt HX7.out)).trans HX7.out)
                have HX8w : Hid (w8.heap[w.heap.size]? = some (.cells #[.int .i64 0, .int .i64 0, .int .i64 0, .int .i64 0] 42 (0, 0))) := Mm.hid ((HB8.out.block _ (Mm.heapLt HX7w.out)).trans HX7w.out)
                have HBW8 : Hid (Below w.heap.size w w8) := Mm.hid (HBW7.out.trans (HB8.out.mono HBW7.out.size))
                have HPL : Hid (p < w.heap.size ∧ r < w.heap.size ∧ w.heap.size < w6.heap.size ∧ w6.heap.size < w7.heap.size ∧ w7.heap.size ≤ d10 ∧ w7.heap.size ≤ w8.heap.size) := Mm.hid ⟨Mm.heapLt H.out.head, H.out.row.1, HSZ.out, Mm.heapLt HX7.out, HD10.out, HB8.out.size⟩
                have c2 := HM8.out.rd.c2
                have fr2 : w8.frozen? ⟨p, 2, none⟩ = false := by simp [World.frozen?, HM8.out.head]
                obtain ⟨z, hz0⟩ : ∃ z : Int, z = (s.last : Int) + 1 := ⟨_, rfl⟩
                obtain ⟨z1, hz1⟩ : ∃ z1 : Int, z1 = ((s.last + 1 : Nat) : Int) + 1 := ⟨_, rfl⟩
                have e5 : wrap64 (z + 1) = z1 := by rw [hz0, hz1]; exact Lf.next_num hla
                rw [← hz0] at c2
                have HZ1 := Mm.hid hz1
                have HLA := Mm.hid hla
                clear k1 k2 k3 k4 k5 hc6' hz0 hz1 hla hn64 hh1 hh2
                go_upto_region 17 with fail
                go_cut [10] from 102 to 108 (fun v10 wx => v10 = .pointer (some ⟨d10, 0, none⟩) ∧ wx = w8.setCell ⟨p, 2, none⟩ (.int .i64 z1))
                case first =>
                  go_wp2_with fail
                  go_meet
                  case rel => exact ⟨rfl, rfl⟩
                case rest =>
                  obtain ⟨h10, hwx⟩ := hcut
                  subst h10
                  rename World => w9
                  clear c2 fr2 e5
                  rw [HZ1.out] at hwx
                  have hpl := HPL.out
                  have KP : ∀ b, b ≠ p → w9.heap[b]? = w8.heap[b]? := fun b hb => by rw [hwx, heap_setCell_other _ _ _ _ (by simpa using hb)]
                  have HH9 : Hid (w9.heap[p]? = some (.cells #[.slice (some ⟨r, 0, none⟩) s.pgs.length c, .int .i64 (s.fan : Int), .int .i64 (((s.last + 1 : Nat) : Int) + 1)] 88 (0, 0))) := Mm.hid (by
                    have h9 := heap_setCell_same w8 p 2 _ _ (.int .i64 (((s.last + 1 : Nat) : Int) + 1)) HM8.out.head
                    rw [hwx, h9]
                    rfl)
                  have HX9 : Hid (w9.heap[w6.heap.size]? = some (.cells #[.int .i64 (P.n : Int), .int .i64 0, .int .i64 0, .int .i64 0] 42 (0, 0))) := Mm.hid ((KP _ (by omega)).trans HX8.out)
                  have HX9w : Hid (w9.heap[w.heap.size]? = some (.cells #[.int .i64 0, .int .i64 0, .int .i64 0, .int .i64 0] 42 (0, 0))) := Mm.hid ((KP _ (by omega)).trans HX8w.out)
                  have HX910 : Hid (w9.heap[d10]? = some (.cells #[.int .i64 ((s.last : Int) + 1), .bool false, .string mk, (.slice qv Lv kv)] 91 (0, 0))) := Mm.hid ((KP _ (by omega)).trans HX10.out)
                  have HKP := Mm.hid KP
                  have HTC9 : Hid (Lf.Tc p r w w9) := Mm.hid (by rw [hwx]; exact (Lf.Tc.of HBW8.out).set (Or.inl rfl) _ _)
                  have HSZ9 : Hid (w9.heap.size = w8.heap.size) := Mm.hid (by rw [hwx]; simp)
                  have HBS9 : Hid (Lf.Bs p w8 w9) := Mm.hid (by rw [hwx]; exact (Lf.Bs.refl _ _).set _ _)
                  clear hwx KP hpl
                  obtain ⟨z, hz⟩ : ∃ z : Int, z = (s.last : Int) + 1 := ⟨_, rfl⟩
                  have HZ := Mm.hid hz
                  clear hz
                  have HX910z := HX910
                  rw [← HZ.out] at HX910z
                  have HS18 : Hid (∀ w' : World, (∀ g, g ≠ w6.heap.size → w'.heap[g]? = w9.heap[g]?) → w'.cell? ⟨w6.heap.size, 0, none⟩ = some (.int .i64 (P.n : Int)) → w'.cell? ⟨w6.heap.size, 0, none⟩ = some (.int .i64 (P.n : Int)) ∧ w'.cell? ⟨d10, 0, none⟩ = some (.int .i64 z)) := Mm.hid (fun w' h1 h2 => ⟨h2, by
                    have h9 : w'.heap[d10]? = _ := (h1 d10 (by have := HPL.out; omega)).trans HX910z.out
                    exact Mm.cellOf h9 rfl⟩)
                  go_upto_region 18 with fail
                  go_cut [10] from 109 to 114 (fun v10 wx => v10 = .pointer (some ⟨d10, 0, none⟩) ∧ Hid (wx.heap[w6.heap.size]? = some (.cells #[.int .i64 (P.n : Int), .int .i64 (P.n : Int), .int .i64 z, .int .i64 0] 42 (0, 0)) ∧ Lf.Bs w6.heap.size w9 wx))
                  case first =>
                    refine wp_region_held_drew (S := fun w' => w'.cell? ⟨w6.heap.size, 0, none⟩ = some (.int .i64 (P.n : Int)) ∧ w'.cell? ⟨d10, 0, none⟩ = some (.int .i64 z)) (by kernel_rfl) (HS18.out _ (Lf.Bs.refl w6.heap.size w9).drew.block (Mm.cellOf HX9.out rfl)) (fun hH => ?_)
                    refine wpAnyH_take (i := 0) (oi := ?ox1q0) (v := ?vx1q0) ?hix1q0 ?hsx1q0 ?hfx1q0 ?hrx1q0 ?hQx1q0 (Or.inl ⟨?hwx1q0, ?hyx1q0⟩) ?hSx1q0 ?restx1q0
                    case hix1q0 => (simp; rfl)
                    case hsx1q0 => kernel_rfl
                    case hfx1q0 => kernel_rfl
                    case hrx1q0 => kernel_rfl
                    case hQx1q0 => exact fun _ _ _ h => h
                    case hwx1q0 => rfl
                    case hyx1q0 => (intro wq hSq; (try dsimp only at hSq); go_simp; (try with_reducible rfl))
                    case hSx1q0 => assumption
                    simp only [Act.put, List.setIfInBounds_toArray, List.set_cons_zero, List.set_cons_succ]
                    refine wpAnyH_take (i := 1) (oi := ?ox2q1) (v := ?vx2q1) ?hix2q1 ?hsx2q1 ?hfx2q1 ?hrx2q1 ?hQx2q1 (Or.inl ⟨?hwx2q1, ?hyx2q1⟩) ?hSx2q1 ?restx2q1
                    case hix2q1 => (simp; rfl)
                    case hsx2q1 => kernel_rfl
                    case hfx2q1 => kernel_rfl
                    case hrx2q1 => kernel_rfl
                    case hQx2q1 => exact fun _ _ _ h => h
                    case hwx2q1 => rfl
                    case hyx2q1 => (intro wq hSq; (try dsimp only at hSq); go_simp; (try with_reducible rfl))
                    case hSx2q1 => assumption
                    simp only [Act.put, List.setIfInBounds_toArray, List.set_cons_zero, List.set_cons_succ]
                    refine wpAnyH_take (i := 2) (oi := ?ox3q2) (v := ?vx3q2) ?hix3q2 ?hsx3q2 ?hfx3q2 ?hrx3q2 ?hQx3q2 (Or.inl ⟨?hwx3q2, ?hyx3q2⟩) ?hSx3q2 ?restx3q2
                    case hix3q2 => (simp; rfl)
                    case hsx3q2 => kernel_rfl
                    case hfx3q2 => kernel_rfl
                    case hrx3q2 => kernel_rfl
                    case hQx3q2 => exact fun _ _ _ h => h
                    case hwx3q2 => rfl
                    case hyx3q2 => (intro wq hSq; (try dsimp only at hSq); go_simp; (try with_reducible rfl))
                    case hSx3q2 => assumption
                    simp only [Act.put, List.setIfInBounds_toArray, List.set_cons_zero, List.set_cons_succ]
                    refine wpAnyH_take (i := 3) (oi := ?ox4q3) (v := ?vx4q3) ?hix4q3 ?hsx4q3 ?hfx4q3 ?hrx4q3 ?hQx4q3 (Or.inl ⟨?hwx4q3, ?hyx4q3⟩) ?hSx4q3 ?restx4q3
                    case hix4q3 => (simp; rfl)
                    case hsx4q3 => kernel_rfl
                    case hfx4q3 => kernel_rfl
                    case hrx4q3 => kernel_rfl
                    case hQx4q3 => exact fun _ _ _ h => h
                    case hwx4q3 => rfl
                    case hyx4q3 => (intro wq hSq; (try dsimp only at hSq); go_simp; (try with_reducible rfl))
                    case hSx4q3 => assumption
                    simp only [Act.put, List.setIfInBounds_toArray, List.set_cons_zero, List.set_cons_succ]
                    refine wpAnyH_take (i := 4) (oi := ?ox5q4) (v := ?vx5q4) ?hix5q4 ?hsx5q4 ?hfx5q4 ?hrx5q4 ?hQx5q4 (Or.inl ⟨?hwx5q4, ?hyx5q4⟩) ?hSx5q4 ?restx5q4
                    case hix5q4 => (simp; rfl)
                    case hsx5q4 => kernel_rfl
                    case hfx5q4 => kernel_rfl
                    case hrx5q4 => kernel_rfl
                    case hQx5q4 => exact fun _ _ _ h => h
                    case hwx5q4 => rfl
                    case hyx5q4 => (intro wq hSq; (try dsimp only at hSq); go_simp; (try with_reducible rfl))
                    case hSx5q4 => assumption
                    simp only [Act.put, List.setIfInBounds_toArray, List.set_cons_zero, List.set_cons_succ]
                    refine wpAnyH_ready (rs := [5]) (by kernel_rfl) (by simp) ?_
                    refine AllReadyH.cons (o := ?ox6q) ?hx6q (fun K hK => ?rx6q) AllReadyH.nil
                    case hx6q => (simp; rfl)
                    case rx6q =>
                      have q0 := HX9.out
                      have q1 : w9.drew.cell? ⟨w6.heap.size, 1, none⟩ = some (.int .i64 0) := Mm.cellOf q0 rfl
                      have q2 : w9.drew.frozen? ⟨w6.heap.size, 1, none⟩ = false := Lf.unfroz q0
                      clear q0
                      have q3 : w9.cell? ⟨w6.heap.size, 1, none⟩ = some (.int .i64 0) := Mm.cellOf HX9.out rfl
                      have q4 : w9.frozen? ⟨w6.heap.size, 1, none⟩ = false := Lf.unfroz HX9.out
                      have q5 : w9.drew.cell? ⟨w6.heap.size, 1, none⟩ = some (.int .i64 0) := q3
                      have q6 : w9.drew.frozen? ⟨w6.heap.size, 1, none⟩ = false := q4
                      go_simp
                      clear q1 q2 q3 q4 q5 q6
                      refine hK.out _ _ (HS18.out _ (Lf.Bs.set (Lf.Bs.refl w6.heap.size w9).drew 1 (.int .i64 (P.n : Int))).block (Mm.cellOf (heap_setCell_same w9.drew w6.heap.size 1 _ _ (.int .i64 (P.n : Int)) HX9.out) rfl)) (fun hHx7q => ?_)
                      clear hK K
                      refine wpAnyH_take (i := 6) (oi := ?ox8q6) (v := ?vx8q6) ?hix8q6 ?hsx8q6 ?hfx8q6 ?hrx8q6 ?hQx8q6 (Or.inl ⟨?hwx8q6, ?hyx8q6⟩) ?hSx8q6 ?restx8q6
                      case hix8q6 => (simp; rfl)
                      case hsx8q6 => kernel_rfl
                      case hfx8q6 => kernel_rfl
                      case hrx8q6 => kernel_rfl
                      case hQx8q6 => exact fun _ _ _ h => h
                      case hwx8q6 => rfl
                      case hyx8q6 => (intro wq hSq; (try dsimp only at hSq); go_simp; (try with_reducible rfl))
                      case hSx8q6 => assumption
                      simp only [Act.put, List.setIfInBounds_toArray, List.set_cons_zero, List.set_cons_succ]
                      refine wpAnyH_ready (rs := [7]) (by kernel_rfl) (by simp) ?_
                      refine AllReadyH.cons (o := ?ox9q) ?hx9q (fun K hK => ?rx9q) AllReadyH.nil
                      case hx9q => (simp; rfl)
                      case rx9q =>
                        have q0 := (heap_setCell_same w9.drew w6.heap.size 1 _ _ (.int .i64 (P.n : Int)) HX9.out)
                        have q1 : (w9.drew.setCell ⟨w6.heap.size, 1, none⟩ (.int .i64 (P.n : Int))).cell? ⟨w6.heap.size, 2, none⟩ = some (.int .i64 0) := Mm.cellOf q0 rfl
                        have q2 : (w9.drew.setCell ⟨w6.heap.size, 1, none⟩ (.int .i64 (P.n : Int))).frozen? ⟨w6.heap.size, 2, none⟩ = false := Lf.unfroz q0
                        clear q0
                        have q3 : w9.cell? ⟨w6.heap.size, 2, none⟩ = some (.int .i64 0) := Mm.cellOf HX9.out rfl
                        have q4 : w9.frozen? ⟨w6.heap.size, 2, none⟩ = false := Lf.unfroz HX9.out
                        have q5 : w9.drew.cell? ⟨w6.heap.size, 2, none⟩ = some (.int .i64 0) := q3
                        have q6 : w9.drew.frozen? ⟨w6.heap.size, 2, none⟩ = false := q4
                        go_simp
                        clear q1 q2 q3 q4 q5 q6
                        refine hK.out _ _ (HS18.out _ (Lf.Bs.set (Lf.Bs.set (Lf.Bs.refl w6.heap.size w9).drew 1 (.int .i64 (P.n : Int))) 2 (.int .i64 z)).block (Mm.cellOf (heap_setCell_same (w9.drew.setCell ⟨w6.heap.size, 1, none⟩ (.int .i64 (P.n : Int))) w6.heap.size 2 _ _ (.int .i64 z) (heap_setCell_same w9.drew w6.heap.size 1 _ _ (.int .i64 (P.n : Int)) HX9.out)) rfl)) (fun hHx10q => ?_)
                        clear hK K
                        refine wpAnyH_done (by kernel_rfl) ?_ _
                        go_wp2_with fail
                        go_meet
                        case rel => exact ⟨rfl, Mm.hid ⟨(heap_setCell_same (w9.drew.setCell ⟨w6.heap.size, 1, none⟩ (.int .i64 (P.n : Int))) w6.heap.size 2 _ _ (.int .i64 z) (heap_setCell_same w9.drew w6.heap.size 1 _ _ (.int .i64 (P.n : Int)) HX9.out)), (Lf.Bs.set (Lf.Bs.set (Lf.Bs.refl w6.heap.size w9).drew 1 (.int .i64 (P.n : Int))) 2 (.int .i64 z))⟩⟩
                  case rest =>
                    obtain ⟨h10, hF⟩ := hcut
                    subst h10
                    rename World => w10
                    have HX11 : Hid (w10.heap[w6.heap.size]? = some (.cells #[.int .i64 (P.n : Int), .int .i64 (P.n : Int), .int .i64 z, .int .i64 0] 42 (0, 0))) := Mm.hid hF.out.1
                    have HBS10 : Hid (Lf.Bs w6.heap.size w9 w10) := Mm.hid hF.out.2
                    clear hF HS18
                    obtain ⟨lf, hlf⟩ : ∃ lf : Nat, lf = if hh ≤ a then s.last + 1 else P.n := ⟨_, rfl⟩
                    have HLF := Mm.hid hlf
                    clear hlf
                    have HXd : Hid (w10.heap[d10]? = some (.cells #[.int .i64 z, .bool false, .string mk, (.slice qv Lv kv)] 91 (0, 0))) := Mm.hid ((HBS10.out.block _ (by have := HPL.out; omega)).trans HX910z.out)
                    go_upto_if 117 with fail
                    go_cut [10] from 115 to 120 (fun v10 wx => v10 = .pointer (some ⟨d10, 0, none⟩) ∧ Hid (wx.heap[w6.heap.size]? = some (.cells #[.int .i64 (lf : Int), .int .i64 (P.n : Int), .int .i64 z, .int .i64 0] 42 (0, 0)) ∧ Lf.Bs w6.heap.size w9 wx))
                    case first =>
                      by_cases hq : hh ≤ a
                      · have hq1 : (hh : Int) ≤ (a : Int) := by omega
                        have HLZ : Hid ((lf : Int) = z) := Mm.hid (by rw [HLF.out, if_pos hq, HZ.out]; rfl)
                        have y0 : w10.cell? ⟨d10, 0, none⟩ = some (.int .i64 z) := Mm.cellOf HXd.out rfl
                        have y1 : w10.cell? ⟨w6.heap.size, 0, none⟩ = some (.int .i64 (P.n : Int)) := Mm.cellOf HX11.out rfl
                        have y2 : w10.frozen? ⟨w6.heap.size, 0, none⟩ = false := by simp [World.frozen?, HX11.out]
                        clear hq
                        go_wp2_with fail
                        go_meet
                        case rel =>
                          refine ⟨rfl, Mm.hid ⟨?_, HBS10.out.set _ _⟩⟩
                          have h9 := heap_setCell_same w10 w6.heap.size 0 _ _ (.int .i64 z) HX11.out
                          rw [HLZ.out]
                          exact h9
                      · have hq1 : ¬ ((hh : Int) ≤ (a : Int)) := by omega
                        have HLZ : Hid (lf = P.n) := Mm.hid (by rw [HLF.out, if_neg hq])
                        clear hq
                        go_wp2_with fail
                        go_meet
                        case rel => exact ⟨rfl, Mm.hid ⟨by rw [HLZ.out]; exact HX11.out, HBS10.out⟩⟩
                    case rest =>
                      clear HX11 HBS10 HXd
                      obtain ⟨h10, hF⟩ := hcut
                      subst h10
                      rename World => w11
                      have HX11 : Hid (w11.heap[w6.heap.size]? = some (.cells #[.int .i64 (lf : Int), .int .i64 (P.n : Int), .int .i64 z, .int .i64 0] 42 (0, 0))) := Mm.hid hF.out.1
                      have HBS11 : Hid (Lf.Bs w6.heap.size w9 w11) := Mm.hid hF.out.2
                      have HD11 : Hid (w11.heap[d10]? = some (.cells #[.int .i64 z, .bool false, .string mk, (.slice qv Lv kv)] 91 (0, 0))) := Mm.hid ((HBS11.out.block _ (by have := HPL.out; omega)).trans HX910z.out)
                      clear hF
                      obtain ⟨P1, hP1⟩ : ∃ P1, P1 = Lf.withKs P ((A ++ k :: B).take hh) := ⟨_, rfl⟩
                      obtain ⟨X, hXX⟩ : ∃ X : Lf.Pg, X = ⟨s.last + 1, mk, (A ++ k :: B).drop hh⟩ := ⟨_, rfl⟩
                      have HP1 := Mm.hid hP1
                      have HXX := Mm.hid hXX
                      have HP1n : Hid (P1.n = P.n) := Mm.hid (by rw [hP1]; rfl)
                      have HXn : Hid (X.n = s.last + 1) := Mm.hid (by rw [hXX])
                      have hnr := hI.out.nd
                      rw [hs.out.e] at hnr
                      obtain ⟨m1, m2⟩ := Lf.nd_mid hnr
                      have HNE : Hid (∀ Q, Q ∈ L ∨ Q ∈ R → Q.n ≠ P1.n ∧ Q.n ≠ X.n) := Mm.hid (fun Q hQ => by
                        rw [HP1n.out, HXn.out]
                        refine ⟨hQ.elim (m1 Q) (m2 Q), ?_⟩
                        have := (hI.out.nr Q (by rw [hs.out.e]; rcases hQ with h | h <;> simp [h])).2
                        omega)
                      have HNX : Hid (P1.n ≠ X.n) := Mm.hid (by
                        rw [HP1n.out, HXn.out]
                        have := (hI.out.nr P hs.out.mem).2
                        omega)
                      have HROW : Hid (∀ w', Below w11.heap.size w11 w' → w'.cell? ⟨p, 0, none⟩ = some (.slice (some ⟨r, 0, none⟩) n c) ∧ ∀ (i : Nat) Q, s.pgs[i]? = some Q → w'.cell? ⟨r, i * 4, none⟩ = some (.int .i64 (Q.n : Int)) ∧ w'.cell? ⟨r, i * 4 + 1, none⟩ = some (.bool (decide (Q.b = ⟨#[]⟩))) ∧ w'.cell? ⟨r, i * 4 + 2, none⟩ = some (.string Q.b) ∧ w'.cell? ⟨r, i * 4 + 3, none⟩ = some (kf Q.n)) := Mm.hid (fun w' hb => by
                        have hpl := HPL.out
                        have hs1 : w11.heap.size = w8.heap.size := HBS11.out.size.trans HSZ9.out
                        have hp : w11.heap[p]? = w9.heap[p]? := HBS11.out.block p (by omega)
                        have hr : w11.heap[r]? = w8.heap[r]? := (HBS11.out.block r (by omega)).trans (HBS9.out.block r (fun e => H.out.pr e.symm))
                        have kr : ∀ o, w'.cell? ⟨r, o, none⟩ = w8.cell? ⟨r, o, none⟩ := fun o => (Mm.belAt hb o (by omega)).trans (World.cell?_of_block (a := ⟨r, o, none⟩) hr)
                        refine ⟨(Mm.belAt hb 0 (by omega)).trans (Mm.cellOf (hp.trans HH9.out) (by rw [HN.out]; rfl)), fun i Q hQ => ?_⟩
                        obtain ⟨x0, x1, x2, x3⟩ := HM8.out.rd.at_ i Q hQ
                        exact ⟨(kr _).trans x0, (kr _).trans x1, (kr _).trans x2, (kr _).trans x3⟩)
                      have HMKE : Hid (mk ≠ ⟨#[]⟩) := Mm.hid (fun e => by
                        obtain ⟨_, _, w3', _⟩ := Lf.insP_weak hI.out hs.out hk.out hb.out
                        obtain ⟨x0, hx0⟩ : ∃ x, (A ++ k :: B)[0]? = some x := ⟨(A ++ k :: B)[0]'(by rw [List.length_append, List.length_cons]; omega), List.getElem?_eq_getElem _⟩
                        have h9 := Lf.up_at w3' HH1.out.1 hx0 HMK.out
                        rw [e, Lf.lt_emp] at h9
                        cases h9)
                      have HKS : Hid (∀ Q ∈ s.pgs, ∃ qq mq cc, kf Q.n = .slice qq mq cc) := Mm.hid (fun Q hQ => by
                        obtain ⟨qq, cc, e, _⟩ := (H.out.ks Q hQ).1.shape
                        exact ⟨qq, _, cc, e⟩)
                      have HHL : Hid (hh ≤ n6 ∧ n6 ≤ 65 ∧ n6 ≤ c6) := Mm.hid ⟨by have := HH1.out; omega, HN65.out, hc6⟩
                      clear hnr m1 m2 hP1 hXX
                      go_wp2_with fail
                      go_loopw [11, 12, 13] (fun vo vi _ wr => ∃ i : Nat, i ≤ n ∧ vi = .int .i64 (i : Int) ∧ Hid (∃ v1, Lf.RwI w11 wr kf L R P1 X (.slice qv Lv kv) i vo v1)) (fun _ vi _ _ => n - (RowKit.intOf vi).toNat)
                      case atStart => exact ⟨0, Nat.zero_le _, rfl, Mm.hid ⟨.slice none 0 0, by rw [Lf.tlI_0]; exact World.ownsRow_nil _ _ _ _, fun h => absurd h (Nat.not_lt_zero _), Below.refl _ _⟩⟩
                      case round =>
                        obtain ⟨i, hi1, rfl, HRI⟩ := hrel
                        rename World => wr
                        obtain ⟨v1, hri⟩ := HRI.out
                        have HR := Mm.hid hri
                        obtain ⟨qo, co, evo⟩ := Lf.rowSl hri.own
                        obtain ⟨N, hN⟩ : ∃ N, N = (Lf.TlI L R P1 X i).length := ⟨_, rfl⟩
                        rw [← hN] at evo
                        have HNL : Hid (N = (Lf.TlI L R P1 X i).length) := Mm.hid hN
                        have HN1 : Hid (N < 1000000) := Mm.hid (by rw [hN]; have := Lf.tlI_len L R P1 X i; omega)
                        have HWL : Hid (w11.heap.size ≤ wr.heap.size) := Mm.hid hri.bel.size
                        have HRO : Hid (wr.ownsRow w11.heap.size 91 4 (.slice qo N co) N (Lf.cellsL (Lf.kfI kf P1.n X.n v1 (.slice qv Lv kv)) (Lf.TlI L R P1 X i))) := Mm.hid (by
                          have h := hri.own
                          rw [evo, ← hN] at h
                          exact h)
                        have hrow := HROW.out wr hri.bel
                        clear HRI hri hN
                        by_cases hlt : i < n
                        · obtain ⟨Q, hQ⟩ : ∃ Q, s.pgs[i]? = some Q := ⟨s.pgs[i]'(by rw [← HN.out]; exact hlt), List.getElem?_eq_getElem _⟩
                          obtain ⟨c0, hrow2⟩ := hrow
                          obtain ⟨d0, d1, d2, d3⟩ := hrow2 i Q hQ
                          clear hrow2
                          obtain ⟨qq, mq, cc, ekq⟩ := HKS.out Q (List.mem_of_getElem? hQ)
                          rw [ekq] at d3
                          have HEQ := Mm.hid ekq
                          have HQ := Mm.hid hQ
                          have g3 : (0 : Int) ≤ (i : Int) := by omega
                          have g4 : (i : Int) < (n : Int) := by omega
                          clear hQ ekq
                          by_cases hil : i = l
                          · have hil' : ((i : Int) == (l : Int)) = true := by rw [hil]; simp
                            have HIL := Mm.hid hil
                            clear hil
                            have hQP : Q = P := by
                              have h9 := HQ.out
                              rw [HIL.out, HIX.out] at h9
                              injection h9 with h9
                              exact h9.symm
                            subst hQP
                            subst evo
                            have HIW : Hid (wr.heap.size < (wr.alloc (.cells #[.int .i64 (Q.n : Int), .bool (decide (Q.b = ⟨#[]⟩)), .string Q.b, .slice qq mq cc] 91)).heap.size) := Mm.hid (by simp)
                            have HSI6 : Hid (Lf.SIn w7 (some ⟨g6, 0, none⟩) ((A ++ k :: B).take hh)) := Mm.hid (fun j x hx => by
                              have hj := (List.getElem?_eq_some_iff.1 hx).1
                              rw [List.getElem?_take_of_lt (by rw [List.length_take] at hj; omega)] at hx
                              have h9 := HO7.out.cell (Lf.strs_at hx)
                              exact ⟨g6, 0, rfl, World.block_lt_of_cell? _ _ h9.1, by rw [Nat.zero_add]; exact h9.1⟩)
                            have HSIr : Hid (Lf.SIn wr (some ⟨g6, 0, none⟩) ((A ++ k :: B).take hh)) := Mm.hid (by
                              have hpl := HPL.out
                              have hg6 : w2.heap.size ≤ g6 ∧ g6 < w6.heap.size := ⟨(HO6.out.lt (g := g6) rfl).2, (HO6.out.lt (g := g6) rfl).1⟩
                              have hw2 := Mm.heapLt HM2.out.head
                              have k1 : w9.heap[g6]? = w8.heap[g6]? := HBS9.out.block _ (by omega)
                              have k2 : w11.heap[g6]? = w9.heap[g6]? := HBS11.out.block _ (by omega)
                              have k3 : wr.heap[g6]? = w11.heap[g6]? := HR.out.bel.block _ (by rw [HBS11.out.size, HSZ9.out]; omega)
                              have k4 : w8.heap[g6]? = w7.heap[g6]? := HB8.out.block _ (by omega)
                              exact HSI6.out.keep (by have := HWL.out; rw [HBS11.out.size, HSZ9.out] at this; omega) (fun ad e => by
                                injection e with e
                                subst e
                                exact k3.trans (k2.trans (k1.trans k4))))
                            have HTL : Hid (((A ++ k :: B).take hh).length = hh) := Mm.hid (by
                              rw [List.length_take]
                              have h1 := HHL.out
                              have h2 := HN6.out
                              omega)
                            have hhl := HHL.out
                            have t0 : (0 : Int) ≤ (hh : Int) := by omega
                            have t1 : (hh : Int) ≤ (n6 : Int) := by omega
                            have t2 : (hh : Int) ≤ (c6 : Int) := by omega
                            have t3 : hh ≤ 100000 := by omega
                            clear hhl
                            go_upto_if 139 with fail
                            go_cut [13] from 121 to 156 (fun v13 wx => v13 = .pointer (some ⟨wr.heap.size, 0, none⟩) ∧ Hid (∃ v3, wx.heap[wr.heap.size]? = some (.cells #[.int .i64 (Q.n : Int), .bool (decide (Q.b = ⟨#[]⟩)), .string Q.b, v3] 91 (0, 0)) ∧ Mm.Own wx wr.heap.size 9 v3 (Lf.strs ((A ++ k :: B).take hh)) ∧ Below wr.heap.size wr wx))
                            case first =>
                              go_wp2_with (at_builtin; go_loud (refine Lf.appTs rfl _ _ rfl wr.heap.size _ [] rfl (Lf.made0 _ (by simp) (by simp)) _ hh _ ((A ++ k :: B).take hh) rfl HTL.out (HSIr.out.below (((Below.refl _ _).alloc (Nat.le_refl _) _).alloc (by simp) _)) (by omega) (by simp) (by simp; omega) ?_); intro v3 w3 h1 h2 h3; rw [List.nil_append] at h1; have hbx : w3.heap[wr.heap.size]? = some (.cells #[.int .i64 (Q.n : Int), .bool (decide (Q.b = ⟨#[]⟩)), .string Q.b, .slice qq mq cc] 91 (0, 0)) := ((h2.block wr.heap.size (Nat.lt_of_lt_of_le HIW.out (by simp)) (fun e => absurd (Option.some.inj e) (Nat.succ_ne_self _).symm)).trans ((Mm.oldAt _ _ HIW.out).trans (Mm.newAt _ _ rfl))); have HBX := Mm.hid hbx; have b3 : w3.cell? ⟨wr.heap.size, 3, none⟩ = some (.slice qq mq cc) := Mm.cellOf hbx rfl; have b4 : w3.frozen? ⟨wr.heap.size, 3, none⟩ = false := Lf.unfroz hbx; have HO3 := Mm.hid h1; have HB3 : Hid (Below wr.heap.size wr w3) := Mm.hid ((((Below.refl _ wr).alloc (Nat.le_refl _) _).alloc (by simp) _).grown h2 (by first | (simp; done) | (simp; omega)) (fun g hg => by have h9 : wr.heap.size + 1 = g := Option.some.inj hg; omega)); obtain ⟨q5, k5, ev5, _⟩ := h1.shape; obtain ⟨L5, hL5⟩ : ∃ L5, L5 = (Lf.strs ((A ++ k :: B).take hh)).length := ⟨_, rfl⟩; rw [← hL5] at ev5; subst ev5; clear hbx h1 h2 h3 hL5)
                              go_meet
                              case rel =>
                                exact ⟨rfl, Mm.hid ⟨_, heap_setCell_same w3 wr.heap.size 3 _ _ _ HBX.out, HO3.out.keep (fun g hg => heap_setCell_other _ _ _ _ (Lf.rowNeBox HO3.out HBX.out (by decide) hg)), Below.setCell HB3.out (p := ⟨wr.heap.size, 3, none⟩) (Nat.le_refl _) _⟩⟩
                            case rest =>
                              obtain ⟨h13, hF⟩ := hcut
                              subst h13
                              rename World => w12
                              obtain ⟨v3, hbx, ho3, hb12⟩ := hF.out
                              obtain ⟨q5, k5, ev5, _⟩ := ho3.shape
                              obtain ⟨L5, hL5⟩ : ∃ L5, L5 = (Lf.strs ((A ++ k :: B).take hh)).length := ⟨_, rfl⟩
                              rw [← hL5] at ev5
                              subst ev5
                              have HBX := Mm.hid hbx
                              have HO3 := Mm.hid ho3
                              have HB12 := Mm.hid hb12
                              have HB12w : Hid (Below w11.heap.size w11 w12) := Mm.hid (HR.out.bel.trans (hb12.mono HWL.out))
                              have e0 : w12.cell? ⟨wr.heap.size, 0, none⟩ = some (.int .i64 (Q.n : Int)) := Mm.cellOf hbx rfl
                              have e1 : w12.cell? ⟨wr.heap.size, 1, none⟩ = some (.bool (decide (Q.b = ⟨#[]⟩))) := Mm.cellOf hbx rfl
                              have e2 : w12.cell? ⟨wr.heap.size, 2, none⟩ = some (.string Q.b) := Mm.cellOf hbx rfl
                              have e3 : w12.cell? ⟨wr.heap.size, 3, none⟩ = some (.slice q5 L5 k5) := Mm.cellOf hbx rfl
                              have HIL2 : Hid (i = L.length) := Mm.hid (HIL.out.trans HLL.out)
                              have HROm : Hid (w12.ownsRow w11.heap.size 91 4 (.slice qo N co) N (Lf.cellsL (Lf.kfI kf P1.n X.n (.slice q5 L5 k5) (.slice qv Lv kv)) L)) := Mm.hid (by
                                have h := HRO.out
                                rw [HIL2.out, Lf.cells_mid (v3 := .slice q5 L5 k5) HNE.out] at h
                                exact Lf.rowBelow h hb12)
                              have HLC1 : Hid (Lf.leafC (Lf.kfI kf P1.n X.n (.slice q5 L5 k5) (.slice qv Lv kv)) P1 = [.int .i64 (Q.n : Int), .bool (decide (Q.b = ⟨#[]⟩)), .string Q.b, .slice q5 L5 k5]) := Mm.hid (by
                                show [_, _, _, (Lf.kfI kf P1.n X.n (.slice q5 L5 k5) (.slice qv Lv kv)) P1.n] = _
                                rw [Lf.kfI_1 HNX.out, HP1.out]
                                rfl)
                              have HK1 : Hid (∃ q m c, (Lf.kfI kf P1.n X.n (.slice q5 L5 k5) (.slice qv Lv kv)) P1.n = .slice q m c) := Mm.hid ⟨_, _, _, Lf.kfI_1 HNX.out⟩
                              have HK2 : Hid (∃ q m c, (Lf.kfI kf P1.n X.n (.slice q5 L5 k5) (.slice qv Lv kv)) X.n = .slice q m c) := Mm.hid ⟨_, _, _, Lf.kfI_2⟩
                              clear hbx ho3 hb12 hF hL5 d0 d1 d2 d3 c0 t0 t1 t2 t3
                              go_upto_region 28 with fail
                              go_cut [11] from 121 to 156 (fun v11 wx => Hid (wx.ownsRow w11.heap.size 91 4 v11 (N + 1) (Lf.cellsL (Lf.kfI kf P1.n X.n (.slice q5 L5 k5) (.slice qv Lv kv)) L ++ Lf.leafC (Lf.kfI kf P1.n X.n (.slice q5 L5 k5) (.slice qv Lv kv)) P1) ∧ Mm.Own wx wr.heap.size 9 (.slice q5 L5 k5) (Lf.strs ((A ++ k :: B).take hh)) ∧ Below w11.heap.size w11 wx))
                              case first =>
                                go_wp2_with (at_builtin; go_loud (refine Lf.appL rfl _ _ rfl w11.heap.size (.slice qo N co) N (Lf.cellsL (Lf.kfI kf P1.n X.n (.slice q5 L5 k5) (.slice qv Lv kv)) L) (Lf.kfI kf P1.n X.n (.slice q5 L5 k5) (.slice qv Lv kv)) P1 HK1.out rfl (Lf.rowBelow HROm.out ((Below.refl _ _).alloc (Nat.le_refl _) _)) _ rfl (by rw [HLC1.out]; exact Lf.leaf_new _ (by simp)) HN1.out (by simp; have := HB12w.out.size; omega) ?_); intro v4 w4 h1 h2 h3)
                                go_meet
                                case rel =>
                                  refine Mm.hid ⟨h1, ?_, ?_⟩
                                  · exact (HO3.out.below ((Below.refl _ _).alloc (Nat.le_refl _) _)).keep (fun g hg => h2.block g (Nat.lt_of_lt_of_le (HO3.out.lt hg).1 (by simp)) (fun e => Lf.rowNe HO3.out HROm.out (by decide) hg e.symm))
                                  · exact (HB12w.out.alloc HB12w.out.size _).grown h2 (by simp; have := HB12w.out.size; omega) (fun g hg => (Lf.rowLt HROm.out hg).1)
                              case rest =>
                                rename World => w13
                                have HF3 := hcut
                                clear hcut
                                obtain ⟨q6, k6, ev6⟩ := Lf.rowSl HF3.out.1
                                subst ev6
                                have HDB : Hid (w13.heap[d10]? = some (.cells #[.int .i64 z, .bool false, .string mk, (.slice qv Lv kv)] 91 (0, 0))) := Mm.hid ((HF3.out.2.2.block _ (Mm.heapLt HD11.out)).trans HD11.out)
                                have y0 : w13.cell? ⟨d10, 0, none⟩ = some (.int .i64 z) := Mm.cellOf HDB.out rfl
                                have y1 : w13.cell? ⟨d10, 1, none⟩ = some (.bool false) := Mm.cellOf HDB.out rfl
                                have y2 : w13.cell? ⟨d10, 2, none⟩ = some (.string mk) := Mm.cellOf HDB.out rfl
                                have y3 : w13.cell? ⟨d10, 3, none⟩ = some (.slice qv Lv kv) := Mm.cellOf HDB.out rfl
                                have HLC2 : Hid (Lf.leafC (Lf.kfI kf P1.n X.n (.slice q5 L5 k5) (.slice qv Lv kv)) X = [.int .i64 z, .bool false, .string mk, .slice qv Lv kv]) := Mm.hid (by
                                  show [_, _, _, (Lf.kfI kf P1.n X.n (.slice q5 L5 k5) (.slice qv Lv kv)) X.n] = _
                                  rw [Lf.kfI_2, HXX.out]
                                  show [Value.int .i64 ((s.last + 1 : Nat) : Int), .bool (decide (mk = ⟨#[]⟩)), .string mk, .slice qv Lv kv] = _
                                  rw [decide_eq_false HMKE.out, HZ.out]
                                  rfl)
                                have HSZ13 : Hid (w11.heap.size ≤ w13.heap.size) := Mm.hid HF3.out.2.2.size
                                have HN2 : Hid (N + 1 < 1000000) := Mm.hid (by rw [HNL.out]; have h9 := Lf.tlI_len L R P1 X i; omega)
                                clear e0 e1 e2 e3
                                go_wp2_with (at_builtin; go_loud (refine Lf.appL rfl _ _ rfl w11.heap.size (.slice q6 (N + 1) k6) (N + 1) (Lf.cellsL (Lf.kfI kf P1.n X.n (.slice q5 L5 k5) (.slice qv Lv kv)) L ++ Lf.leafC (Lf.kfI kf P1.n X.n (.slice q5 L5 k5) (.slice qv Lv kv)) P1) (Lf.kfI kf P1.n X.n (.slice q5 L5 k5) (.slice qv Lv kv)) X HK2.out rfl (Lf.rowBelow HF3.out.1 ((Below.refl _ _).alloc (Nat.le_refl _) _)) _ rfl (by rw [HLC2.out]; exact Lf.leaf_new _ (by simp)) HN2.out (by simp; have := HSZ13.out; omega) ?_); intro v4 w4 h1 h2 h3)
                                have HRM : Lf.RwI w11 w4 kf L R P1 X (.slice qv Lv kv) (i + 1) v4 (.slice q5 L5 k5) := by
                                  have hNl : N = L.length := by rw [HNL.out, HIL2.out, (Lf.tlI_at L R P1 X).1]
                                  rw [HIL2.out]
                                  refine Lf.RwI.mid ?_ (by rw [← hNl]; exact h1) ?_
                                  · exact (HF3.out.2.2.alloc HF3.out.2.2.size _).grown h2 (by simp; have := HSZ13.out; omega) (fun g hg => (Lf.rowLt HF3.out.1 hg).1)
                                  · have h9 := (HF3.out.2.1.below ((Below.refl _ _).alloc (Nat.le_refl _) _)).keep (fun g hg => h2.block g (Nat.lt_of_lt_of_le (HF3.out.2.1.lt hg).1 (by simp)) (fun e => Lf.rowNe HF3.out.2.1 HF3.out.1 (by decide) hg e.symm))
                                    rw [HP1.out]
                                    exact h9.base HWL.out
                                exact ⟨⟨i + 1, by omega, by go_num, Mm.hid ⟨_, HRM⟩⟩, by simp [RowKit.intOf]; omega⟩
                          · have hil' : ((i : Int) == (l : Int)) = false := by simp; omega
                            have HLR : Hid (Lf.TlI L R P1 X (i + 1) = Lf.TlI L R P1 X i ++ [Q] ∧ (Q ∈ L ∨ Q ∈ R)) := Mm.hid (by
                              have h9 := HQ.out
                              rw [hs.out.e] at h9
                              rcases Nat.lt_or_ge i L.length with h | h
                              · rw [List.getElem?_append_left h] at h9
                                exact ⟨Lf.tlI_lt h9, Or.inl (List.mem_of_getElem? h9)⟩
                              · have h8 : L.length < i := by have := HLL.out; omega
                                rw [List.getElem?_append_right h, show i - L.length = (i - L.length - 1) + 1 by omega, List.getElem?_cons_succ] at h9
                                exact ⟨Lf.tlI_gt h8 h9, Or.inr (List.mem_of_getElem? h9)⟩)
                            have HLC : Hid (Lf.leafC (Lf.kfI kf P1.n X.n v1 (.slice qv Lv kv)) Q = [.int .i64 (Q.n : Int), .bool (decide (Q.b = ⟨#[]⟩)), .string Q.b, .slice qq mq cc]) := Mm.hid (by
                              obtain ⟨h1, h2⟩ := HNE.out Q HLR.out.2
                              show [_, _, _, Lf.kfI kf P1.n X.n v1 (.slice qv Lv kv) Q.n] = _
                              rw [Lf.kfI_o h1 h2, HEQ.out])
                            have HIL : Hid (i ≠ L.length) := Mm.hid (by rw [← HLL.out]; exact hil)
                            clear hil
                            subst evo
                            go_wp2_with (at_builtin; refine Lf.appL rfl _ _ rfl w11.heap.size (.slice qo N co) N (Lf.cellsL (Lf.kfI kf P1.n X.n v1 (.slice qv Lv kv)) (Lf.TlI L R P1 X i)) (Lf.kfI kf P1.n X.n v1 (.slice qv Lv kv)) Q (by obtain ⟨h1, h2⟩ := HNE.out Q HLR.out.2; exact ⟨qq, mq, cc, (Lf.kfI_o h1 h2).trans HEQ.out⟩) rfl (Lf.rowBelow HRO.out (((Below.refl _ _).alloc (Nat.le_refl _) _).alloc (by simp) _)) _ rfl (by rw [HLC.out]; exact Lf.leaf_new _ (by simp)) HN1.out (by simp; have := HWL.out; omega) ?_; intro v2 w2' h1 h2 h3)
                            refine ⟨⟨i + 1, by omega, by go_num, Mm.hid ⟨v1, HR.out.add HLR.out.1 HIL.out (((Below.refl _ _).alloc (Nat.le_refl _) _).alloc (by simp) _) (by rw [← HNL.out]; exact h1) h2⟩⟩, by simp [RowKit.intOf]; omega⟩
                        · have hin : i = n := by omega
                          have HT : Hid (Lf.TlI L R P1 X i = L ++ P1 :: X :: R) := Mm.hid (Lf.tlI_end (by
                            rw [hin, HN.out, hs.out.e, List.length_append, List.length_cons]
                            omega))
                          have HNn : Hid (N = (L ++ P1 :: X :: R).length) := Mm.hid (by rw [HNL.out, HT.out])
                          obtain ⟨ro, co', ero⟩ := Lf.rowShape HRO.out (by rw [HNn.out]; simp)
                          injection ero with ero _ eco
                          subst ero eco
                          subst evo
                          have HRO2 : Hid (wr.ownsRow w11.heap.size 91 4 (.slice (some ⟨ro, 0, none⟩) N co) N (Lf.cellsL (Lf.kfI kf P1.n X.n v1 (.slice qv Lv kv)) (L ++ P1 :: X :: R))) := Mm.hid (by rw [← HT.out]; exact HRO.out)
                          have hpl := HPL.out
                          have hw11 : w11.heap.size = w8.heap.size := HBS11.out.size.trans HSZ9.out
                          have KR : Hid (∀ g, g < w8.heap.size → g ≠ p → g ≠ w6.heap.size → wr.heap[g]? = w8.heap[g]?) := Mm.hid (fun g h1 h2 h3 => (HR.out.bel.block g (by omega)).trans ((HBS11.out.block g h3).trans (HBS9.out.block g h2)))
                          have HHR : Hid (wr.heap[p]? = some (.cells #[.slice (some ⟨r, 0, none⟩) s.pgs.length c, .int .i64 (s.fan : Int), .int .i64 (((s.last + 1 : Nat) : Int) + 1)] 88 (0, 0))) := Mm.hid ((HR.out.bel.block p (by omega)).trans ((HBS11.out.block p (by omega)).trans HH9.out))
                          have HXr : Hid (wr.heap[w6.heap.size]? = some (.cells #[.int .i64 (lf : Int), .int .i64 (P.n : Int), .int .i64 z, .int .i64 0] 42 (0, 0))) := Mm.hid ((HR.out.bel.block _ (by omega)).trans HX11.out)
                          have HXrw : Hid (wr.heap[w.heap.size]? = some (.cells #[.int .i64 0, .int .i64 0, .int .i64 0, .int .i64 0] 42 (0, 0))) := Mm.hid ((HR.out.bel.block _ (by omega)).trans ((HBS11.out.block _ (by omega)).trans HX9w.out))
                          have HTCr : Hid (Lf.Tc p r w wr) := Mm.hid ((HTC9.out.bs HBS11.out (Or.inr (Or.inr (by omega)))).bel2 HR.out.bel)
                          have HRO9 : Hid (w11.heap.size ≤ ro ∧ w11.heap.size = w8.heap.size) := Mm.hid ⟨(Lf.rowLt HRO2.out (g := ro) rfl).1, hw11⟩
                          have c0 := hrow.1
                          have fr0 : wr.frozen? ⟨p, 0, none⟩ = false := Lf.unfroz HHR.out
                          clear hrow hpl hw11 HRO
                          subst hin
                          go_upto_region 31 with fail
                          go_cut [11] from 157 to 160 (fun v11 wx => v11 = .slice (some ⟨ro, 0, none⟩) N co ∧ wx = wr.setCell ⟨p, 0, none⟩ (.slice (some ⟨ro, 0, none⟩) N co))
                          case first =>
                            go_wp2_with fail
                            go_meet
                            case rel => exact ⟨rfl, rfl⟩
                          case rest =>
                            obtain ⟨h11, hwx⟩ := hcut
                            subst h11
                            rename World => w20
                            have HWX := Mm.hid hwx
                            clear hwx c0 fr0
                            have hpl := HPL.out
                            have HX20 : Hid (w20.heap[w6.heap.size]? = some (.cells #[.int .i64 (lf : Int), .int .i64 (P.n : Int), .int .i64 z, .int .i64 0] 42 (0, 0))) := Mm.hid (by rw [HWX.out, heap_setCell_other _ _ _ _ (by simp; omega)]; exact HXr.out)
                            have HX20w : Hid (w20.heap[w.heap.size]? = some (.cells #[.int .i64 0, .int .i64 0, .int .i64 0, .int .i64 0] 42 (0, 0))) := Mm.hid (by rw [HWX.out, heap_setCell_other _ _ _ _ (by simp; omega)]; exact HXrw.out)
                            have e0 : w20.cell? ⟨w6.heap.size, 0, none⟩ = some (.int .i64 (lf : Int)) := Mm.cellOf HX20.out rfl
                            have e1 : w20.cell? ⟨w6.heap.size, 1, none⟩ = some (.int .i64 (P.n : Int)) := Mm.cellOf HX20.out rfl
                            have e2 : w20.cell? ⟨w6.heap.size, 2, none⟩ = some (.int .i64 z) := Mm.cellOf HX20.out rfl
                            have e3 : w20.cell? ⟨w6.heap.size, 3, none⟩ = some (.int .i64 0) := Mm.cellOf HX20.out rfl
                            have f0 : w20.cell? ⟨w.heap.size, 0, none⟩ = some (.int .i64 0) := Mm.cellOf HX20w.out rfl
                            have f1 : w20.cell? ⟨w.heap.size, 1, none⟩ = some (.int .i64 0) := Mm.cellOf HX20w.out rfl
                            have f2 : w20.cell? ⟨w.heap.size, 2, none⟩ = some (.int .i64 0) := Mm.cellOf HX20w.out rfl
                            have f3 : w20.cell? ⟨w.heap.size, 3, none⟩ = some (.int .i64 0) := Mm.cellOf HX20w.out rfl
                            have r0 : w20.frozen? ⟨w.heap.size, 0, none⟩ = false := Lf.unfroz HX20w.out
                            have r1 : w20.frozen? ⟨w.heap.size, 1, none⟩ = false := Lf.unfroz HX20w.out
                            have r2 : w20.frozen? ⟨w.heap.size, 2, none⟩ = false := Lf.unfroz HX20w.out
                            have r3 : w20.frozen? ⟨w.heap.size, 3, none⟩ = false := Lf.unfroz HX20w.out
                            clear hpl
                            go_wp2_with fail
                            clear e0 e1 e2 e3 f0 f1 f2 f3 r0 r1 r2 r3
                            obtain ⟨x1, x2, x3, x4⟩ := Lf.ins_part hI.out hs.out hk.out hb.out hf.out (m := mk) (by rw [← HHE.out]; exact HMK.out)
                            rw [← HHE.out] at x1 x3 x4
                            have epg : (Lf.insS s L P R (A ++ k :: B)).pgs = L ++ P1 :: X :: R := by rw [x1, HP1.out, HXX.out]
                            have hpl := HPL.out
                            have hro := HRO9.out
                            have OLD : ∀ Q, Q ∈ L ∨ Q ∈ R → Mm.Own wr base 9 (kf Q.n) (Lf.strs Q.ks) ∧ (∀ g, (kf Q.n).ownBlock = some g → g ≠ p ∧ g < w.heap.size) ∧ Q ∈ s.pgs := fun Q hQ => by
                              have hm : Q ∈ s.pgs := by rw [hs.out.e]; rcases hQ with h | h <;> simp [h]
                              have ho := H.out.ks Q hm
                              refine ⟨ho.1.keep (fun g hg => ?_), fun g hg => ⟨(ho.2 g hg).1, (ho.1.lt hg).1⟩, hm⟩
                              have h9 := (ho.1.lt hg).1
                              exact (KR.out g (by omega) (ho.2 g hg).1 (by omega)).trans (HBW8.out.block g h9)
                            have hkv1 : Mm.Own wr w11.heap.size 9 v1 (Lf.strs P1.ks) := HR.out.k1 (by have h9 := HN.out; rw [hs.out.e, List.length_append, List.length_cons] at h9; omega)
                            have hkvX : Mm.Own wr w7.heap.size 9 (.slice qv Lv kv) (Lf.strs ((A ++ k :: B).drop hh)) := HK10.out.keep (fun g hg => by
                              have h9 := HK10.out.lt hg
                              exact KR.out g h9.1 (by omega) (by omega))
                            have hks : ∀ Q ∈ (Lf.insS s L P R (A ++ k :: B)).pgs, Mm.Own wr base 9 (Lf.kfI kf P1.n X.n v1 (.slice qv Lv kv) Q.n) (Lf.strs Q.ks) ∧ ∀ g, (Lf.kfI kf P1.n X.n v1 (.slice qv Lv kv) Q.n).ownBlock = some g → g ≠ p ∧ g ≠ ro := fun Q hQ => by
                              have hb9 := hbase.out
                              have old : Q ∈ L ∨ Q ∈ R → Mm.Own wr base 9 (Lf.kfI kf P1.n X.n v1 (.slice qv Lv kv) Q.n) (Lf.strs Q.ks) ∧ ∀ g, (Lf.kfI kf P1.n X.n v1 (.slice qv Lv kv) Q.n).ownBlock = some g → g ≠ p ∧ g ≠ ro := fun h => by
                                rw [Lf.kfI_o (HNE.out Q h).1 (HNE.out Q h).2]
                                obtain ⟨o1, o2, _⟩ := OLD Q h
                                exact ⟨o1, fun g hg => ⟨(o2 g hg).1, by have := (o2 g hg).2; omega⟩⟩
                              rw [epg] at hQ
                              rcases List.mem_append.1 hQ with h | h
                              · exact old (Or.inl h)
                              · rcases List.mem_cons.1 h with h | h
                                · subst h
                                  rw [Lf.kfI_1 HNX.out]
                                  refine ⟨hkv1.base (by omega), fun g hg => ⟨?_, fun e => Lf.rowNe hkv1 HRO2.out (by decide) hg (by rw [e]; rfl)⟩⟩
                                  have := (hkv1.lt hg).2
                                  omega
                                · rcases List.mem_cons.1 h with h | h
                                  · subst h
                                    rw [Lf.kfI_2]
                                    have e9 : Q.ks = (A ++ k :: B).drop hh := by rw [HXX.out]
                                    rw [e9]
                                    refine ⟨hkvX.base (by omega), fun g hg => ?_⟩
                                    have h8 := (HK10.out.lt hg).1
                                    have h9 := (HK10.out.lt hg).2
                                    exact ⟨by omega, by omega⟩
                                  · exact old (Or.inr h)
                            have hRM := Lf.Rm.putRow H.out (s' := Lf.insS s L P R (A ++ k :: B)) (r' := ro) (c' := co) (n := N) (kf' := Lf.kfI kf P1.n X.n v1 (.slice qv Lv kv)) (by rw [x1]; rfl) (d := ((s.last + 1 : Nat) : Int) + 1) (by rw [x1]) HHR.out (by rw [epg]; exact HNn.out) (by rw [epg]; exact Lf.rowBase HRO2.out (by have := hbase.out; omega)) (by omega) hks
                            rw [← HWX.out] at hRM
                            have hTC : Lf.Tc p r w w20 := by rw [HWX.out]; exact HTCr.out.set (Or.inl rfl) _ _
                            have hfin := Lf.Out.fin H.out hRM hTC (fun b h => by
                              rcases h with h | h | ⟨Q, hQ, h⟩
                              · exact Or.inl (Or.inl h)
                              · exact Or.inr (by omega)
                              · rw [epg] at hQ
                                have old : Q ∈ L ∨ Q ∈ R → Lf.Rb p r kf s b ∨ w.heap.size < b := fun h2 => by
                                  rw [Lf.kfI_o (HNE.out Q h2).1 (HNE.out Q h2).2] at h
                                  exact Or.inl (Or.inr (Or.inr ⟨Q, (OLD Q h2).2.2, h⟩))
                                rcases List.mem_append.1 hQ with h2 | h2
                                · exact old (Or.inl h2)
                                · rcases List.mem_cons.1 h2 with h2 | h2
                                  · subst h2
                                    rw [Lf.kfI_1 HNX.out] at h
                                    have := (hkv1.lt h).2
                                    exact Or.inr (by omega)
                                  · rcases List.mem_cons.1 h2 with h2 | h2
                                    · subst h2
                                      rw [Lf.kfI_2] at h
                                      have := (HK10.out.lt h).2
                                      exact Or.inr (by omega)
                                    · exact old (Or.inr h2)) (.int .i64 (lf : Int)) (.int .i64 (P.n : Int)) (.int .i64 z) (.int .i64 0)
                            have hs4 := Lf.set4 (y0 := .int .i64 (lf : Int)) (y1 := .int .i64 (P.n : Int)) (y2 := .int .i64 z) (y3 := .int .i64 0) HX20w.out
                            have hc0 := Mm.cellOf (i := 0) hs4 rfl
                            have hc1 := Mm.cellOf (i := 1) hs4 rfl
                            have hc2 := Mm.cellOf (i := 2) hs4 rfl
                            have hc3 := Mm.cellOf (i := 3) hs4 rfl
                            have hins : Lf.InsR s k (Lf.insS s L P R (A ++ k :: B)) lf P.n (s.last + 1) 0 := by
                              rw [HLF.out]
                              by_cases hq : hh ≤ a
                              · rw [if_pos hq]
                                have h9 := Lf.InsR.ok hs.out hk.out hb.out hz (x3 (by rw [HAL.out]; exact hq))
                                rw [x2] at h9
                                exact h9
                              · rw [if_neg hq]
                                have h9 := Lf.InsR.ok hs.out hk.out hb.out hz (x4 (by rw [HAL.out]; omega))
                                rw [x2] at h9
                                exact h9
                            exact bodyPost_ret (v := .agg #[.int .i64 (lf : Int), .int .i64 (P.n : Int), .int .i64 z, .int .i64 0]) (by simp [results, Tryz.results35, go_sem, hc0, hc1, hc2, hc3]) rfl ⟨_, lf, P.n, s.last + 1, by rw [HZ.out]; rfl, hins, hfin⟩

end Go.Proofs.YtjnaafgiokdcbaaGreatDoor
