/- The reference's Range. -/
import Derived.Test.YtjnaafgiokdcbaaGreatDoorGH
import Derived.Deep.CutRange
namespace Go.Proofs.YtjnaafgiokdcbaaGreatDoor
open Go.RowKit

namespace Lf
/-- Range's two boxes, and what has been gathered. -/
structure RgS (w wr : World) (v1 v2 : Value) (a : List ByteArray) (b : List Nat) : Prop where
  b6 : wr.heap[w.heap.size]? = some (.cells #[.slice none 0 0, .slice none 0 0] 115 (0, 0))
  b7 : wr.heap[w.heap.size + 1]? = some (.cells #[v1, v2] 115 (0, 0))
  o1 : Mm.Own wr (w.heap.size + 2) 9 v1 (strs a)
  o2 : Mm.Own wr (w.heap.size + 2) 3 v2 (Mm.nts b)
  ne : ∀ g, v1.ownBlock = some g → v2.ownBlock ≠ some g
  bel : Below w.heap.size w wr
theorem RgS.add1 {w wr w5 : World} {v1 v2 v : Value} {a : List ByteArray} {b : List Nat} {k : ByteArray} (H : RgS w wr v1 v2 a b) (ho : Mm.Own w5 (w.heap.size + 2) 9 v (strs a ++ [.string k])) (hg : wr.grownBy w5 v1.ownBlock) (hl : v.ownBlock = v1.ownBlock ∨ ∀ g, v.ownBlock = some g → wr.heap.size ≤ g) :
    RgS w (w5.setCell ⟨w.heap.size + 1, 0, none⟩ v) v v2 (a ++ [k]) b := by
  have n1 : ∀ g, v1.ownBlock = some g → w.heap.size + 2 ≤ g := fun g e => (H.o1.lt e).2
  refine ⟨?_, ?_, ?_, ?_, fun g hv hg2 => ?_, ?_⟩
  · rw [heap_setCell_other _ _ _ _ (by simp)]
    exact (hg.block _ (Mm.heapLt H.b6) (fun e => by have := n1 _ e.symm; omega)).trans H.b6
  · exact heap_setCell_same w5 _ 0 _ _ v ((hg.block _ (Mm.heapLt H.b7) (fun e => by have := n1 _ e.symm; omega)).trans H.b7)
  · have h1 : strs (a ++ [k]) = strs a ++ [.string k] := by simp [strs]
    rw [h1]
    exact ho.keep (fun g hg => heap_setCell_other _ _ _ _ (by have := (ho.lt hg).2; simp; omega))
  · exact H.o2.keep (fun g hg2 => (heap_setCell_other _ _ _ _ (by have := (H.o2.lt hg2).2; simp; omega)).trans (hg.block g (H.o2.lt hg2).1 (fun e => H.ne g e.symm hg2)))
  · rcases hl with e | e
    · exact H.ne g (e.symm.trans hv) hg2
    · have h1 := e g hv
      have h2 := (H.o2.lt hg2).1
      omega
  · exact (H.bel.grown hg H.bel.size (fun g e => by have := n1 g e; omega)).setCell (Nat.le_succ _) v
theorem RgS.add2 {w wr w5 : World} {v1 v2 v : Value} {a : List ByteArray} {b : List Nat} {k : Nat} (H : RgS w wr v1 v2 a b) (ho : Mm.Own w5 (w.heap.size + 2) 3 v (Mm.nts b ++ [.int .i64 (k : Int)])) (hg : wr.grownBy w5 v2.ownBlock) (hl : v.ownBlock = v2.ownBlock ∨ ∀ g, v.ownBlock = some g → wr.heap.size ≤ g) :
    RgS w (w5.setCell ⟨w.heap.size + 1, 1, none⟩ v) v1 v a (b ++ [k]) := by
  have n1 : ∀ g, v2.ownBlock = some g → w.heap.size + 2 ≤ g := fun g e => (H.o2.lt e).2
  refine ⟨?_, ?_, ?_, ?_, fun g hv hg2 => ?_, ?_⟩
  · rw [heap_setCell_other _ _ _ _ (by simp)]
    exact (hg.block _ (Mm.heapLt H.b6) (fun e => by have := n1 _ e.symm; omega)).trans H.b6
  · exact heap_setCell_same w5 _ 1 _ _ v ((hg.block _ (Mm.heapLt H.b7) (fun e => by have := n1 _ e.symm; omega)).trans H.b7)
  · exact H.o1.keep (fun g hg1 => (heap_setCell_other _ _ _ _ (by have := (H.o1.lt hg1).2; simp; omega)).trans (hg.block g (H.o1.lt hg1).1 (fun e => H.ne g hg1 e.symm)))
  · rw [Mm.nts_app]
    exact ho.keep (fun g hg => heap_setCell_other _ _ _ _ (by have := (ho.lt hg).2; simp; omega))
  · rcases hl with e | e
    · exact H.ne g hv (e.symm.trans hg2)
    · have h1 := e g hg2
      have h2 := (H.o1.lt hv).1
      omega
  · exact (H.bel.grown hg H.bel.size (fun g e => by have := n1 g e; omega)).setCell (Nat.le_succ _) v
theorem cntR {s : S} {T : List Pg} {l i j : Nat} {Q : Pg} {frm tto : ByteArray} (hT : T = s.pgs.drop l) (hQ : T[i]? = some Q) : (strs (keysIn frm tto (T.take i) ++ (Q.ks.take j).filter (inR frm tto))).length ≤ (flat s.pgs).length := by
  rw [strs_len, List.length_append]
  have h1 : (keysIn frm tto (T.take i)).length ≤ (flat (T.take i)).length := List.length_filter_le _ _
  have h2 : ((Q.ks.take j).filter (inR frm tto)).length ≤ Q.ks.length := Nat.le_trans (List.length_filter_le _ _) (List.length_take_le' _ _)
  have h3 := flat_step hQ
  have h4 : (flat T).length ≤ (flat s.pgs).length := by
    rw [hT]
    conv => rhs; rw [← List.take_append_drop l s.pgs, flat_app, List.length_append]
    omega
  have h5 : (flat (T.take (i + 1))).length ≤ (flat T).length := by
    conv => rhs; rw [← List.take_append_drop (i + 1) T, flat_app, List.length_append]
    omega
  omega
theorem res2 {w : World} {B : Nat} {x y v1 v2 : Value} {t : TypeId} (h : w.heap[B]? = some (.cells #[x, y] t (0, 0))) : ((w.setCell ⟨B, 0, none⟩ v1).setCell ⟨B, 1, none⟩ v2).cell? ⟨B, 0, none⟩ = some v1 ∧ ((w.setCell ⟨B, 0, none⟩ v1).setCell ⟨B, 1, none⟩ v2).cell? ⟨B, 1, none⟩ = some v2 := by
  have h1 : ((w.setCell ⟨B, 0, none⟩ v1).setCell ⟨B, 1, none⟩ v2).heap[B]? = some (.cells #[v1, v2] t (0, 0)) := by
    have h1 := heap_setCell_same w B 0 _ t v1 h
    exact heap_setCell_same _ B 1 _ t v2 h1
  exact ⟨Mm.cellOf h1 rfl, Mm.cellOf h1 rfl⟩
theorem RgS.done {w wr : World} {v1 v2 : Value} {a : List ByteArray} {b : List Nat} (H : RgS w wr v1 v2 a b) : Two w ((wr.setCell ⟨w.heap.size, 0, none⟩ v1).setCell ⟨w.heap.size, 1, none⟩ v2) v1 v2 a b := by
  have k : ∀ g, w.heap.size + 2 ≤ g → ((wr.setCell ⟨w.heap.size, 0, none⟩ v1).setCell ⟨w.heap.size, 1, none⟩ v2).heap[g]? = wr.heap[g]? := fun g h => (heap_setCell_other _ _ _ _ (by simp; omega)).trans (heap_setCell_other _ _ _ _ (by simp; omega))
  have o1 := H.o1.keep (fun g hg => k g (H.o1.lt hg).2)
  have o2 := H.o2.keep (fun g hg => k g (H.o2.lt hg).2)
  exact ⟨o1.base (by omega), o2.base (by omega), H.ne, (H.bel.setCell (Nat.le_refl _) v1).setCell (Nat.le_refl _) v2⟩
end Lf

set_option maxRecDepth 100000 in
set_option maxHeartbeats 4000000 in
theorem refRange_any {w : World} {p r c : Nat} {kf : Nat → Value} {s : Lf.S} (H : Hid (Lf.Rd w p r c kf s)) (hI : Hid (Lf.Inv s)) (hn : s.pgs.length ≤ 100000) (hks : ∀ P ∈ s.pgs, P.ks.length ≤ 100000) (hff : (Lf.flat s.pgs).length ≤ 100000) (frm tto : ByteArray) :
    Calls Tryz.prog 64 #[.pointer (some ⟨p, 0, none⟩), .string frm, .string tto] w fun e w' => ∃ v1 v2, e = .returned (.agg #[v1, v2]) ∧ Lf.Two w w' v1 v2 (Lf.spanK s frm tto) (Lf.spanL s frm tto) := by
  obtain ⟨w1, hw1⟩ : ∃ w1, (w.alloc (.cells #[.slice none 0 0, .slice none 0 0] 115)).alloc (.cells #[.slice none 0 0, .slice none 0 0] 115) = w1 := ⟨_, rfl⟩
  have HB1 : Hid (Below w.heap.size w w1) := Mm.hid (by rw [← hw1]; exact ((Below.refl _ _).alloc (Nat.le_refl _) _).alloc (by simp) _)
  have HX6 : Hid (w1.heap[w.heap.size]? = some (.cells #[.slice none 0 0, .slice none 0 0] 115 (0, 0))) := Mm.hid (by rw [← hw1]; exact (Mm.oldAt _ _ (by simp)).trans (Mm.newAt _ _ rfl))
  have HX7 : Hid (w1.heap[w.heap.size + 1]? = some (.cells #[.slice none 0 0, .slice none 0 0] 115 (0, 0))) := Mm.hid (by rw [← hw1]; exact Mm.newAt _ _ (by simp))
  have y60 : w1.cell? ⟨w.heap.size, 0, none⟩ = some (.slice none 0 0) := Mm.cellOf HX6.out rfl
  have y61 : w1.cell? ⟨w.heap.size, 1, none⟩ = some (.slice none 0 0) := Mm.cellOf HX6.out rfl
  have y70 : w1.cell? ⟨w.heap.size + 1, 0, none⟩ = some (.slice none 0 0) := Mm.cellOf HX7.out rfl
  have y71 : w1.cell? ⟨w.heap.size + 1, 1, none⟩ = some (.slice none 0 0) := Mm.cellOf HX7.out rfl
  have f60 : w1.frozen? ⟨w.heap.size, 0, none⟩ = false := by simp [World.frozen?, HX6.out]
  have f61 : w1.frozen? ⟨w.heap.size, 1, none⟩ = false := by simp [World.frozen?, HX6.out]
  go_enter Tryz.func64, Tryz.ntmps64
  go_upto_region 2 with fail
  go_cut [18] from 12 to 18 (fun vt wx => vt = .bool (decide (tto ≠ ⟨#[]⟩ ∧ Lf.lt frm tto = false)) ∧ wx = w1)
  case first =>
    have KEY : Hid ((!tto.toList.isEmpty && (Op.bytesLess tto.toList frm.toList || tto.toList == frm.toList)) = decide (tto ≠ ⟨#[]⟩ ∧ Lf.lt frm tto = false)) := Mm.hid (by
      by_cases h : tto = ⟨#[]⟩
      · have e0 : tto.toList.isEmpty = true := by rw [h, ByteArray.toList_eq]; rfl
        rw [e0, decide_eq_false (fun h2 => h2.1 h)]; simp
      · rw [Lf.ne_emp h]
        cases hl : Lf.lt frm tto with
        | true =>
          rw [decide_eq_false (fun h2 => by cases h2.2), show Op.bytesLess tto.toList frm.toList = false from Lf.lt_as hl, Lf.eqB, decide_eq_false (fun e => Lf.lt_ne hl e.symm)]; rfl
        | false =>
          rw [decide_eq_true ⟨h, rfl⟩]
          cases h2 : Op.bytesLess tto.toList frm.toList with
          | true => rfl
          | false => simp [Lf.lt_tri h2 hl])
    go_wp2_with fail
    · rename_i h
      go_meet
      case rel => exact ⟨by rw [← KEY.out, h]; rfl, rfl⟩
    · go_meet
      case rel => exact ⟨by rw [← KEY.out], rfl⟩
  case rest =>
    obtain ⟨h18, hwc⟩ := hcut
    subst h18
    have hwc' := hwc.symm
    subst hwc'
    by_cases hA : tto ≠ ⟨#[]⟩ ∧ Lf.lt frm tto = false
    · rw [decide_eq_true hA]
      have HA := Mm.hid hA
      clear hA
      go_wp2_with fail
      obtain ⟨hc0, hc1⟩ := Lf.res2 (v1 := .slice none 0 0) (v2 := .slice none 0 0) HX6.out
      have HTW : Hid (Lf.Two w ((w1.setCell ⟨w.heap.size, 0, none⟩ (.slice none 0 0)).setCell ⟨w.heap.size, 1, none⟩ (.slice none 0 0)) (.slice none 0 0) (.slice none 0 0) (Lf.spanK s frm tto) (Lf.spanL s frm tto)) := Mm.hid (by
        have e1 : Lf.spanK s frm tto = [] := by unfold Lf.spanK; rw [if_pos HA.out]
        have e2 : Lf.spanL s frm tto = [] := by unfold Lf.spanL; rw [if_pos HA.out]
        rw [e1, e2]
        exact Lf.RgS.done ⟨HX6.out, HX7.out, Mm.Own.nil _ _ _, Mm.Own.nil _ _ _, (fun _ h => nomatch h), HB1.out⟩)
      exact bodyPost_ret (v := .agg #[.slice none 0 0, .slice none 0 0]) (by simp [results, Tryz.results64, go_sem, hc0, hc1]) rfl ⟨_, _, rfl, HTW.out⟩
    · rw [decide_eq_false hA]
      have ht : tto = ⟨#[]⟩ ∨ Lf.lt frm tto = true := by
        by_cases h : tto = ⟨#[]⟩
        · exact Or.inl h
        · exact Or.inr (by cases h2 : Lf.lt frm tto with | true => rfl | false => exact absurd ⟨h, h2⟩ hA)
      have HA := Mm.hid hA
      clear hA
      obtain ⟨L, P, R, hs⟩ := Lf.spl_ex hI.out frm
      obtain ⟨e, he1, he2, he3, he4, he5⟩ := Lf.rng_end hI.out hs ht
      have HR1 := Mm.hid (H.out.below HB1.out)
      have c0 := HR1.out.c0
      obtain ⟨n, hnn⟩ : ∃ n, n = s.pgs.length := ⟨_, rfl⟩
      rw [← hnn] at c0 he2 he3
      have HAT := Mm.hid (refAt_any HR1 (Mm.hid hs) (by omega))
      obtain ⟨l, hl⟩ : ∃ l, l = L.length := ⟨_, rfl⟩
      rw [← hl] at he1 he5 HAT
      have HS := Mm.hid hs
      have HN := Mm.hid hnn
      have HLL := Mm.hid hl
      have HE5 := Mm.hid he5
      rw [← hnn] at hn
      have HE4 := Mm.hid he4
      have HE3 := Mm.hid he3
      clear hs hl hnn he5 he4 he3 ht
      go_upto_if 27 with fail
      go_cut [8] from 12 to 33 (fun v8 wx => v8 = .int .i64 (e : Int) ∧ wx = w1)
      case first =>
        by_cases h0 : tto = ⟨#[]⟩
        · have h9 := HE3.out h0
          have hh : (n : Int) - 1 = (e : Int) := by omega
          have e0 : (!tto.toList.isEmpty) = false := by rw [h0, ByteArray.toList_eq]; rfl
          clear h9 h0
          rw [e0]
          go_wp2_with fail
          go_meet
          case rel => exact ⟨rfl, rfl⟩
        · obtain ⟨L', P', R', hs', he⟩ := HE4.out h0
          have HAT2 := Mm.hid (refAt_any HR1 (Mm.hid hs') (by rw [← HN.out]; omega))
          rw [← he] at HAT2
          have e0 : (!tto.toList.isEmpty) = true := by rw [Lf.ne_emp h0]; rfl
          clear hs' he h0
          rw [e0]
          go_wp2_with fail
          refine HAT2.out.mono ?_
          rintro e2 w2 ⟨rfl, hw2⟩
          obtain rfl := hw2.symm
          go_wp2_with fail
          go_meet
          case rel => exact ⟨rfl, rfl⟩
      case rest =>
        obtain ⟨h8, hwc⟩ := hcut
        subst h8
        have hwc' := hwc.symm
        subst hwc'
        go_wp2_with fail
        refine HAT.out.mono ?_
        rintro e2 w2 ⟨rfl, hw2⟩
        obtain rfl := hw2.symm
        go_wp2_with fail
        have HEB : Hid (l ≤ e ∧ e < n ∧ n ≤ 100000) := Mm.hid ⟨he1, he2, hn⟩
        obtain ⟨T, hT⟩ : ∃ T, T = s.pgs.drop l := ⟨_, rfl⟩
        have HT := Mm.hid hT
        clear hT c0 HAT
        have HRG1 : Hid (Lf.RgS w w1 (.slice none 0 0) (.slice none 0 0) (Lf.keysIn frm tto (T.take (l - l))) (Lf.nums (T.take (l - l)))) := Mm.hid (by
          rw [Nat.sub_self]
          exact ⟨HX6.out, HX7.out, Mm.Own.nil _ _ _, Mm.Own.nil _ _ _, (fun _ h => nomatch h), HB1.out⟩)
        have HFL : Hid ((Lf.flat s.pgs).length ≤ 100000) := Mm.hid hff
        have HKS : Hid (∀ P ∈ s.pgs, P.ks.length ≤ 100000) := Mm.hid hks
        clear y60 y61 y70 y71 f60 f61 hff hks
        go_loopw [9] (fun vi wr => ∃ i : Nat, l ≤ i ∧ i ≤ e + 1 ∧ vi = .int .i64 (i : Int) ∧ Hid (∃ v1 v2, Lf.RgS w wr v1 v2 (Lf.keysIn frm tto (T.take (i - l))) (Lf.nums (T.take (i - l))))) (fun vi _ => e + 1 - (RowKit.intOf vi).toNat)
        case atStart => exact ⟨l, Nat.le_refl _, by omega, rfl, Mm.hid ⟨_, _, HRG1.out⟩⟩
        case round =>
          clear HRG1
          obtain ⟨i, hi0, hi1, rfl, HRG⟩ := hrel
          rename World => wr
          obtain ⟨v1, v2, hrg⟩ := HRG.out
          have HG := Mm.hid hrg
          clear hrg HRG
          by_cases hlt : i ≤ e
          · obtain ⟨Q, hQ⟩ : ∃ Q, s.pgs[i]? = some Q := ⟨s.pgs[i]'(by rw [← HN.out]; omega), List.getElem?_eq_getElem _⟩
            have HRr := Mm.hid (H.out.below HG.out.bel)
            have c0 := HRr.out.c0
            rw [← HN.out] at c0
            obtain ⟨d0, _, _, d3⟩ := HRr.out.at_ i Q hQ
            obtain ⟨qk, ck, ekf, hsi⟩ := HRr.out.ks Q (List.mem_of_getElem? hQ)
            obtain ⟨m, hm⟩ : ∃ m, m = Q.ks.length := ⟨_, rfl⟩
            rw [ekf, ← hm] at d3
            have hmb : m ≤ 100000 := by rw [hm]; exact HKS.out Q (List.mem_of_getElem? hQ)
            have HM := Mm.hid hm
            have HQ := Mm.hid hQ
            have HTQ : Hid (T[i - l]? = some Q) := Mm.hid (by rw [HT.out, List.getElem?_drop, show l + (i - l) = i by omega]; exact hQ)
            have g1 : (0 : Int) ≤ (i : Int) := by omega
            have g2 : (i : Int) < (n : Int) := by omega
            have g3 : (i : Int) ≤ (e : Int) := by omega
            have HSM : Hid (∀ w', Below wr.heap.size wr w' → w'.cell? ⟨p, 0, none⟩ = some (.slice (some ⟨r, 0, none⟩) n c) ∧ w'.cell? ⟨r, i * 4, none⟩ = some (.int .i64 (Q.n : Int))) := Mm.hid (fun w' hb => ⟨(Mm.belAt hb _ HRr.out.pl).trans c0, (Mm.belAt hb _ HRr.out.rl).trans d0⟩)
            have HSX : Hid (∀ w', Below w.heap.size w w' → w'.cell? ⟨p, 0, none⟩ = some (.slice (some ⟨r, 0, none⟩) n c) ∧ w'.cell? ⟨r, i * 4, none⟩ = some (.int .i64 (Q.n : Int)) ∧ w'.cell? ⟨r, i * 4 + 3, none⟩ = some (.slice qk m ck) ∧ Lf.SIn w' qk Q.ks) := Mm.hid (fun w' hb => by
              have h1 := H.out.below hb
              have h2 := h1.c0
              rw [← HN.out] at h2
              obtain ⟨e0, _, _, e3⟩ := h1.at_ i Q HQ.out
              obtain ⟨q9, c9, e9, h9⟩ := h1.ks Q (List.mem_of_getElem? HQ.out)
              rw [ekf] at e9
              injection e9 with e9 _ _
              rw [← e9] at h9
              rw [ekf, ← HM.out] at e3
              exact ⟨h2, e0, e3, h9⟩)
            have HLN : Hid ((Mm.nts (Lf.nums (T.take (i - l)))).length < 1000000) := Mm.hid (by
              simp [Lf.nums]; have := HEB.out; omega)
            have HBX : Hid (wr.heap[w.heap.size + 1]? = some (.cells #[v1, v2] 115 (0, 0))) := Mm.hid HG.out.b7
            have HSZ : Hid (w.heap.size + 2 ≤ wr.heap.size) := Mm.hid (Mm.heapLt HBX.out)
            have x1 : wr.cell? ⟨w.heap.size + 1, 1, none⟩ = some v2 := Mm.cellOf HBX.out rfl
            have hv2 : w.heap.size + 1 < wr.heap.size := Mm.heapLt HBX.out
            clear hQ hm hsi ekf d0 d3 c0
            have HS2 : Hid (∀ w', Below w.heap.size w w' → w'.cell? ⟨p, 0, none⟩ = some (.slice (some ⟨r, 0, none⟩) n c) ∧ w'.cell? ⟨r, i * 4, none⟩ = some (.int .i64 (Q.n : Int))) := Mm.hid (fun w' hb => ⟨(HSX.out w' hb).1, (HSX.out w' hb).2.1⟩)
            have HBL := Mm.hid hv2
            clear x1 hv2
            go_wp2_with fail
            refine wp_region_held_drew (S := fun w' => w'.cell? ⟨p, 0, none⟩ = some (.slice (some ⟨r, 0, none⟩) n c) ∧ w'.cell? ⟨r, i * 4, none⟩ = some (.int .i64 (Q.n : Int))) (by kernel_rfl) (HS2.out _ HG.out.bel.drew) (fun hH => ?_)
            refine wpAnyH_take (i := 0) (oi := ?ot1q0) (v := ?vt1q0) ?hit1q0 ?hst1q0 ?hft1q0 ?hrt1q0 ?hQt1q0 (Or.inl ⟨?hwt1q0, ?hyt1q0⟩) ?hSt1q0 ?restt1q0
            case hit1q0 => (simp; rfl)
            case hst1q0 => kernel_rfl
            case hft1q0 => kernel_rfl
            case hrt1q0 => kernel_rfl
            case hQt1q0 => exact fun _ _ _ h => h
            case hwt1q0 => rfl
            case hyt1q0 => (intro wq hSq; (try dsimp only at hSq); go_simp; (try with_reducible rfl))
            case hSt1q0 => assumption
            simp only [Act.put, List.setIfInBounds_toArray, List.set_cons_zero, List.set_cons_succ]
            refine wpAnyH_take (i := 2) (oi := ?ot2q2) (v := ?vt2q2) ?hit2q2 ?hst2q2 ?hft2q2 ?hrt2q2 ?hQt2q2 (Or.inl ⟨?hwt2q2, ?hyt2q2⟩) ?hSt2q2 ?restt2q2
            case hit2q2 => (simp; rfl)
            case hst2q2 => kernel_rfl
            case hft2q2 => kernel_rfl
            case hrt2q2 => kernel_rfl
            case hQt2q2 => exact fun _ _ _ h => h
            case hwt2q2 => rfl
            case hyt2q2 => (intro wq hSq; (try dsimp only at hSq); go_simp; (try with_reducible rfl))
            case hSt2q2 => assumption
            simp only [Act.put, List.setIfInBounds_toArray, List.set_cons_zero, List.set_cons_succ]
            refine wpAnyH_take (i := 3) (oi := ?ot3q3) (v := ?vt3q3) ?hit3q3 ?hst3q3 ?hft3q3 ?hrt3q3 ?hQt3q3 (Or.inl ⟨?hwt3q3, ?hyt3q3⟩) ?hSt3q3 ?restt3q3
            case hit3q3 => (simp; rfl)
            case hst3q3 => kernel_rfl
            case hft3q3 => kernel_rfl
            case hrt3q3 => kernel_rfl
            case hQt3q3 => exact fun _ _ _ h => h
            case hwt3q3 => rfl
            case hyt3q3 => (intro wq hSq; (try dsimp only at hSq); go_simp; (try with_reducible rfl))
            case hSt3q3 => assumption
            simp only [Act.put, List.setIfInBounds_toArray, List.set_cons_zero, List.set_cons_succ]
            refine wpAnyH_take (i := 4) (oi := ?ot4q4) (v := ?vt4q4) ?hit4q4 ?hst4q4 ?hft4q4 ?hrt4q4 ?hQt4q4 (Or.inl ⟨?hwt4q4, ?hyt4q4⟩) ?hSt4q4 ?restt4q4
            case hit4q4 => (simp; rfl)
            case hst4q4 => kernel_rfl
            case hft4q4 => kernel_rfl
            case hrt4q4 => kernel_rfl
            case hQt4q4 => exact fun _ _ _ h => h
            case hwt4q4 => rfl
            case hyt4q4 => (intro wq hSq; (try dsimp only at hSq); go_simp; (try with_reducible rfl))
            case hSt4q4 => assumption
            simp only [Act.put, List.setIfInBounds_toArray, List.set_cons_zero, List.set_cons_succ]
            refine wpAnyH_take (i := 5) (oi := ?ot5q5) (v := ?vt5q5) ?hit5q5 ?hst5q5 ?hft5q5 ?hrt5q5 ?hQt5q5 (Or.inl ⟨?hwt5q5, ?hyt5q5⟩) ?hSt5q5 ?restt5q5
            case hit5q5 => (simp; rfl)
            case hst5q5 => kernel_rfl
            case hft5q5 => kernel_rfl
            case hrt5q5 => kernel_rfl
            case hQt5q5 => exact fun _ _ _ h => h
            case hwt5q5 => rfl
            case hyt5q5 => (intro wq hSq; (try dsimp only at hSq); go_simp; (try with_reducible rfl))
            case hSt5q5 => assumption
            simp only [Act.put, List.setIfInBounds_toArray, List.set_cons_zero, List.set_cons_succ]
            refine wpAnyH_take (i := 6) (oi := ?ot6q6) (v := ?vt6q6) ?hit6q6 ?hst6q6 ?hft6q6 ?hrt6q6 ?hQt6q6 (Or.inl ⟨?hwt6q6, ?hyt6q6⟩) ?hSt6q6 ?restt6q6
            case hit6q6 => (simp; rfl)
            case hst6q6 => kernel_rfl
            case hft6q6 => kernel_rfl
            case hrt6q6 => kernel_rfl
            case hQt6q6 => exact fun _ _ _ h => h
            case hwt6q6 => rfl
            case hyt6q6 => (intro wq hSq; (try dsimp only at hSq); go_simp; (try with_reducible rfl))
            case hSt6q6 => assumption
            simp only [Act.put, List.setIfInBounds_toArray, List.set_cons_zero, List.set_cons_succ]
            refine wpAnyH_take (i := 7) (oi := ?ot7q7) (v := ?vt7q7) ?hit7q7 ?hst7q7 ?hft7q7 ?hrt7q7 ?hQt7q7 (Or.inl ⟨?hwt7q7, ?hyt7q7⟩) ?hSt7q7 ?restt7q7
            case hit7q7 => (simp; rfl)
            case hst7q7 => kernel_rfl
            case hft7q7 => kernel_rfl
            case hrt7q7 => kernel_rfl
            case hQt7q7 => exact fun _ _ _ h => h
            case hwt7q7 => rfl
            case hyt7q7 => (intro wq hSq; (try dsimp only at hSq); go_simp; (try with_reducible rfl))
            case hSt7q7 => assumption
            simp only [Act.put, List.setIfInBounds_toArray, List.set_cons_zero, List.set_cons_succ]
            refine wpAnyH_take (i := 8) (oi := ?ot8q8) (v := ?vt8q8) ?hit8q8 ?hst8q8 ?hft8q8 ?hrt8q8 ?hQt8q8 (Or.inl ⟨?hwt8q8, ?hyt8q8⟩) ?hSt8q8 ?restt8q8
            case hit8q8 => (simp; rfl)
            case hst8q8 => kernel_rfl
            case hft8q8 => kernel_rfl
            case hrt8q8 => kernel_rfl
            case hQt8q8 => exact fun _ _ _ h => h
            case hwt8q8 => rfl
            case hyt8q8 => (intro wq hSq; (try dsimp only at hSq); go_simp; (try with_reducible rfl))
            case hSt8q8 => assumption
            simp only [Act.put, List.setIfInBounds_toArray, List.set_cons_zero, List.set_cons_succ]
            refine wpAnyH_take (i := 9) (oi := ?ot9q9) (v := ?vt9q9) ?hit9q9 ?hst9q9 ?hft9q9 ?hrt9q9 ?hQt9q9 (Or.inl ⟨?hwt9q9, ?hyt9q9⟩) ?hSt9q9 ?restt9q9
            case hit9q9 => (simp; rfl)
            case hst9q9 => kernel_rfl
            case hft9q9 => kernel_rfl
            case hrt9q9 => kernel_rfl
            case hQt9q9 => exact fun _ _ _ h => h
            case hwt9q9 => rfl
            case hyt9q9 => (intro wq hSq; (try dsimp only at hSq); go_simp; (try with_reducible rfl))
            case hSt9q9 => assumption
            simp only [Act.put, List.setIfInBounds_toArray, List.set_cons_zero, List.set_cons_succ]
            refine wpAnyH_ready (rs := [1, 10]) (by kernel_rfl) (by simp) ?_
            refine AllReadyH.cons (o := ?ot10q) ?ht10q (fun K hK => ?rt10q) (AllReadyH.cons (o := ?ot11q) ?ht11q (fun K hK => ?rt11q) AllReadyH.nil)
            case ht10q => (simp; rfl)
            case ht11q => (simp; rfl)
            case rt10q =>
              have q1 : wr.drew.cell? ⟨w.heap.size + 1, 1, none⟩ = some v2 := Mm.cellOf HBX.out rfl
              go_simp
              clear q1
              refine hK.out _ _ (HS2.out _ HG.out.bel.drew) (fun hHt12q => ?_)
              clear hK K
              refine wpAnyH_ready (rs := [10]) (by kernel_rfl) (by simp) ?_
              refine AllReadyH.cons (o := ?ot13q) ?ht13q (fun K hK => ?rt13q) AllReadyH.nil
              case ht13q => (simp; rfl)
              case rt13q =>
                go_simp
                refine hK.out _ _ (HS2.out _ (HG.out.bel.drew.alloc HG.out.bel.size _)) (fun hHt14q => ?_)
                clear hK K
                refine wpAnyH_ready (rs := [11]) (by kernel_rfl) (by simp) ?_
                refine AllReadyH.cons (o := ?ot15q) ?ht15q (fun K hK => ?rt15q) AllReadyH.nil
                case ht15q => (simp; rfl)
                case rt15q =>
                  have HOX : Hid (Mm.Own (wr.drew.alloc (.cells #[.int .i64 (Q.n : Int)] 3)) (w.heap.size + 2) 3 v2 (Mm.nts (Lf.nums (T.take (i - l))))) := Mm.hid (HG.out.o2.below (((Below.refl _ wr).drew).alloc (Nat.le_refl _) _))
                  refine Mm.stepI rfl _ _ rfl (w.heap.size + 2) (w := (wr.drew.alloc (.cells #[.int .i64 (Q.n : Int)] 3))) v2 (Q.n : Int) _ rfl HOX.out wr.heap.size rfl (Mm.cellOf (Mm.newAt wr.drew _ rfl) rfl) HLN.out (Nat.le_trans HSZ.out (Nat.le_of_lt (Mm.heapLt (Mm.newAt wr.drew _ rfl)))) ?_
                  intro v5 w5 hown2 hg2 hl2
                  obtain ⟨q5, k5, ev5, _⟩ := hown2.shape
                  obtain ⟨L5, hL5⟩ : ∃ L5, L5 = (Mm.nts (Lf.nums (T.take (i - l))) ++ [Value.int .i64 (Q.n : Int)]).length := ⟨_, rfl⟩
                  rw [← hL5] at ev5
                  subst ev5
                  clear hL5
                  have HB5 : Hid (Below w.heap.size w w5) := Mm.hid (((HG.out.bel.drew.alloc HG.out.bel.size _)).grown hg2 (Nat.le_trans HG.out.bel.size (Nat.le_of_lt (Mm.heapLt (Mm.newAt wr.drew _ rfl)))) (fun g hg => by have := (HG.out.o2.lt hg).2; omega))
                  have hg3 := Mm.grAl hg2
                  have HG6 := Mm.hid (HG.out.add2 hown2 ⟨hg3.os, hg3.tape, hg3.output, hg3.size, hg3.block⟩ (by
                    rcases hl2 with e | e
                    · exact Or.inl e
                    · exact Or.inr (fun g hg => Nat.le_trans (Nat.le_of_lt (Mm.heapLt (Mm.newAt wr.drew _ rfl))) (e g hg))))
                  have hbx5 : w5.heap[w.heap.size + 1]? = some (.cells #[v1, v2] 115 (0, 0)) := (hg3.block _ HBL.out (fun e => by have := (HG.out.o2.lt e.symm).2; omega)).trans HBX.out
                  have q2 : w5.cell? ⟨w.heap.size + 1, 1, none⟩ = some v2 := Mm.cellOf hbx5 rfl
                  have q3 : w5.frozen? ⟨w.heap.size + 1, 1, none⟩ = false := by simp [World.frozen?, hbx5]
                  clear hown2 hg2 hl2 hg3 hbx5
                  refine hK.out _ _ (HS2.out _ HB5.out) (fun hHt16q => ?_)
                  clear hK K
                  refine wpAnyH_take (i := 12) (oi := ?ot17q12) (v := ?vt17q12) ?hit17q12 ?hst17q12 ?hft17q12 ?hrt17q12 ?hQt17q12 (Or.inl ⟨?hwt17q12, ?hyt17q12⟩) ?hSt17q12 ?restt17q12
                  case hit17q12 => (simp; rfl)
                  case hst17q12 => kernel_rfl
                  case hft17q12 => kernel_rfl
                  case hrt17q12 => kernel_rfl
                  case hQt17q12 => exact fun _ _ _ h => h
                  case hwt17q12 => rfl
                  case hyt17q12 => (intro wq hSq; (try dsimp only at hSq); go_simp; (try with_reducible rfl))
                  case hSt17q12 => assumption
                  simp only [Act.put, List.setIfInBounds_toArray, List.set_cons_zero, List.set_cons_succ]
                  refine wpAnyH_ready (rs := [13]) (by kernel_rfl) (by simp) ?_
                  refine AllReadyH.cons (o := ?ot18q) ?ht18q (fun K hK => ?rt18q) AllReadyH.nil
                  case ht18q => (simp; rfl)
                  case rt18q =>
                    go_simp
                    clear q2 q3
                    refine hK.out _ _ (HS2.out _ (Below.setCell HB5.out (p := ⟨w.heap.size + 1, 1, none⟩) (Nat.le_succ _) (.slice q5 L5 k5))) (fun hHt19q => ?_)
                    clear hK K
                    refine wpAnyH_done (by kernel_rfl) ?_ _
                    have HTK : Hid (T.take (i + 1 - l) = T.take (i - l) ++ [Q]) := Mm.hid (by rw [show i + 1 - l = i - l + 1 by omega, List.take_add_one, HTQ.out]; rfl)
                    have HRG6 : Hid (∃ v1 v2, Lf.RgS w (w5.setCell ⟨w.heap.size + 1, 1, none⟩ (.slice q5 L5 k5)) v1 v2 (Lf.keysIn frm tto (T.take (i - l)) ++ (Q.ks.take 0).filter (Lf.inR frm tto)) (Lf.nums (T.take (i + 1 - l)))) := Mm.hid ⟨v1, _, by
                      have h1 := HG6.out
                      rw [show Lf.nums (T.take (i - l)) ++ [Q.n] = Lf.nums (T.take (i + 1 - l)) by rw [HTK.out]; simp [Lf.nums]] at h1
                      simpa using h1⟩
                    generalize w5.setCell ⟨w.heap.size + 1, 1, none⟩ (.slice q5 L5 k5) = w6 at HRG6 ⊢
                    clear HB5 HG6 HOX hH
                    go_wp2_with fail
                    go_loopw [10] (fun vj w2 => ∃ j : Nat, j ≤ m ∧ vj = .int .i64 (j : Int) ∧ Hid (∃ v1 v2, Lf.RgS w w2 v1 v2 (Lf.keysIn frm tto (T.take (i - l)) ++ (Q.ks.take j).filter (Lf.inR frm tto)) (Lf.nums (T.take (i + 1 - l))))) (fun vj _ => m - (RowKit.intOf vj).toNat)
                    case atStart => exact ⟨0, Nat.zero_le _, rfl, HRG6⟩
                    case round =>
                      clear HRG6
                      obtain ⟨j, hj1, rfl, HJ⟩ := hrel
                      rename World => w2
                      obtain ⟨u1, u2, hju⟩ := HJ.out
                      have HU := Mm.hid hju
                      obtain ⟨b0, _, b3, b4⟩ := HSX.out w2 hju.bel
                      have HSI := Mm.hid b4
                      clear hju HJ b4
                      by_cases hjm : j < m
                      · obtain ⟨y, hy⟩ : ∃ y, Q.ks[j]? = some y := ⟨Q.ks[j]'(by rw [← HM.out]; exact hjm), List.getElem?_eq_getElem _⟩
                        have HY := Mm.hid hy
                        obtain ⟨bq, oq, rfl, hbq, hcq⟩ := HSI.out j y hy
                        have f1 : (0 : Int) ≤ (j : Int) := by omega
                        have f2 : (j : Int) < (m : Int) := by omega
                        have HTJ : Hid (Q.ks.take (j + 1) = Q.ks.take j ++ [y]) := Mm.hid (by rw [List.take_add_one, hy]; rfl)
                        have KEY : Hid ((!Op.bytesLess y.toList frm.toList && (tto.toList.isEmpty || Op.bytesLess y.toList tto.toList)) = Lf.inR frm tto y) := Mm.hid (by
                          unfold Lf.inR
                          show _ = (!Op.bytesLess y.toList frm.toList && (decide (tto = ⟨#[]⟩) || Op.bytesLess y.toList tto.toList))
                          by_cases h : tto = ⟨#[]⟩
                          · have e0 : tto.toList.isEmpty = true := by rw [h, ByteArray.toList_eq]; rfl
                            rw [e0, decide_eq_true h]
                          · rw [Lf.ne_emp h, decide_eq_false h])
                        obtain ⟨q6, c6, ev6, _⟩ := HU.out.o1.shape
                        obtain ⟨L6, hL6⟩ : ∃ L6, L6 = (Lf.strs (Lf.keysIn frm tto (T.take (i - l)) ++ (Q.ks.take j).filter (Lf.inR frm tto))).length := ⟨_, rfl⟩
                        rw [← hL6] at ev6
                        subst ev6
                        have HL6 := Mm.hid hL6
                        have t1 : w2.cell? ⟨w.heap.size + 1, 0, none⟩ = some (.slice q6 L6 c6) := Mm.cellOf HU.out.b7 rfl
                        clear hy hbq hL6
                        go_upto_region 15 with fail
                        go_cut [87] from 52 to 93 (fun vt wx => vt = .bool (Lf.inR frm tto y) ∧ wx = w2)
                        case first =>
                          go_wp2_with fail
                          all_goals
                            go_meet
                            case rel => exact ⟨by rw [← KEY.out]; simp_all, rfl⟩
                        case rest =>
                          obtain ⟨h87, hwc⟩ := hcut
                          subst h87
                          have hwc' := hwc.symm
                          subst hwc'
                          cases hin : Lf.inR frm tto y with
                          | false =>
                            have HN2 : Hid (∃ v1 v2, Lf.RgS w w2 v1 v2 (Lf.keysIn frm tto (T.take (i - l)) ++ (Q.ks.take (j + 1)).filter (Lf.inR frm tto)) (Lf.nums (T.take (i + 1 - l)))) := Mm.hid ⟨_, _, by
                              rw [HTJ.out, List.filter_append, show [y].filter (Lf.inR frm tto) = [] by simp [hin], List.append_nil]; exact HU.out⟩
                            go_wp2_with fail
                            exact ⟨⟨j + 1, by omega, by go_num, HN2⟩, by simp [RowKit.intOf]; omega⟩
                          | true =>
                            have HCNT : Hid ((Lf.strs (Lf.keysIn frm tto (T.take (i - l)) ++ (Q.ks.take j).filter (Lf.inR frm tto))).length < 1000000) := Mm.hid (Nat.lt_of_le_of_lt (Lf.cntR HT.out HTQ.out) (by have := HFL.out; omega))
                            have HSZ2 : Hid (w.heap.size + 2 ≤ w2.heap.size) := Mm.hid (Mm.heapLt HU.out.b7)
                            have HIN := Mm.hid hin
                            clear hin
                            go_wp2_with (at_builtin; refine Lf.appT w2 rfl _ _ rfl (w.heap.size + 2) (.slice q6 L6 c6) y _ rfl HU.out.o1 _ rfl (by simp) HCNT.out HSZ2.out ?_; intro v5 w5 h1 h2 h3; obtain ⟨q7, c7, ev7, _⟩ := h1.shape; obtain ⟨L7, hL7⟩ : ∃ L7, L7 = (Lf.strs (Lf.keysIn frm tto (T.take (i - l)) ++ (Q.ks.take j).filter (Lf.inR frm tto)) ++ [Value.string y]).length := ⟨_, rfl⟩; rw [← hL7] at ev7; subst ev7; clear hL7; have hbx5 : w5.heap[w.heap.size + 1]? = some (.cells #[.slice q6 L6 c6, u2] 115 (0, 0)) := (h2.block _ (Mm.heapLt HU.out.b7) (fun e => by have := (HU.out.o1.lt e.symm).2; omega)).trans HU.out.b7; have q2 : w5.cell? ⟨w.heap.size + 1, 0, none⟩ = some (.slice q6 L6 c6) := Mm.cellOf hbx5 rfl; have q3 : w5.frozen? ⟨w.heap.size + 1, 0, none⟩ = false := (by simp [World.frozen?, hbx5]); have HA1 := Mm.hid (HU.out.add1 h1 h2 h3))
                            have HN2 : Hid (∃ v1 v2, Lf.RgS w (w5.setCell ⟨w.heap.size + 1, 0, none⟩ (.slice q7 L7 c7)) v1 v2 (Lf.keysIn frm tto (T.take (i - l)) ++ (Q.ks.take (j + 1)).filter (Lf.inR frm tto)) (Lf.nums (T.take (i + 1 - l)))) := Mm.hid ⟨_, _, by
                              rw [HTJ.out, List.filter_append, show [y].filter (Lf.inR frm tto) = [y] by simp [HIN.out], ← List.append_assoc]; exact HA1.out⟩
                            exact ⟨⟨j + 1, by omega, by go_num, HN2⟩, by simp [RowKit.intOf]; omega⟩
                      · have he : j = m := by omega
                        subst he
                        have HN3 : Hid (∃ v1 v2, Lf.RgS w w2 v1 v2 (Lf.keysIn frm tto (T.take (i + 1 - l))) (Lf.nums (T.take (i + 1 - l)))) := Mm.hid ⟨_, _, by
                          have h1 := HU.out
                          have e2 : Q.ks.take j = Q.ks := List.take_of_length_le (by rw [HM.out]; exact Nat.le_refl _)
                          rw [e2] at h1
                          have e : Lf.keysIn frm tto (T.take (i + 1 - l)) = Lf.keysIn frm tto (T.take (i - l)) ++ Q.ks.filter (Lf.inR frm tto) := by
                            rw [HTK.out, Lf.keysIn_app, Lf.keysIn_one]
                          rw [e]; exact h1⟩
                        go_wp2_with fail
                        exact ⟨⟨i + 1, by omega, by omega, by go_num, HN3⟩, by simp [RowKit.intOf]; omega⟩
            case rt11q =>
              go_simp
              refine hK.out _ _ (HS2.out _ (HG.out.bel.drew.alloc HG.out.bel.size _)) (fun hHt20q => ?_)
              clear hK K
              refine wpAnyH_ready (rs := [1]) (by kernel_rfl) (by simp) ?_
              refine AllReadyH.cons (o := ?ot21q) ?ht21q (fun K hK => ?rt21q) AllReadyH.nil
              case ht21q => (simp; rfl)
              case rt21q =>
                have q1 : (wr.alloc (.cells #[.int .i64 (Q.n : Int)] 3)).cell? ⟨w.heap.size + 1, 1, none⟩ = some v2 := Mm.cellOf ((Mm.oldAt wr _ HBL.out).trans HBX.out) rfl
                go_simp
                clear q1
                refine hK.out _ _ (HS2.out _ (HG.out.bel.drew.alloc HG.out.bel.size _)) (fun hHt22q => ?_)
                clear hK K
                refine wpAnyH_ready (rs := [11]) (by kernel_rfl) (by simp) ?_
                refine AllReadyH.cons (o := ?ot23q) ?ht23q (fun K hK => ?rt23q) AllReadyH.nil
                case ht23q => (simp; rfl)
                case rt23q =>
                  have HOX : Hid (Mm.Own (wr.drew.alloc (.cells #[.int .i64 (Q.n : Int)] 3)) (w.heap.size + 2) 3 v2 (Mm.nts (Lf.nums (T.take (i - l))))) := Mm.hid (HG.out.o2.below (((Below.refl _ wr).drew).alloc (Nat.le_refl _) _))
                  refine Mm.stepI rfl _ _ rfl (w.heap.size + 2) (w := (wr.drew.alloc (.cells #[.int .i64 (Q.n : Int)] 3))) v2 (Q.n : Int) _ rfl HOX.out wr.heap.size rfl (Mm.cellOf (Mm.newAt wr.drew _ rfl) rfl) HLN.out (Nat.le_trans HSZ.out (Nat.le_of_lt (Mm.heapLt (Mm.newAt wr.drew _ rfl)))) ?_
                  intro v5 w5 hown2 hg2 hl2
                  obtain ⟨q5, k5, ev5, _⟩ := hown2.shape
                  obtain ⟨L5, hL5⟩ : ∃ L5, L5 = (Mm.nts (Lf.nums (T.take (i - l))) ++ [Value.int .i64 (Q.n : Int)]).length := ⟨_, rfl⟩
                  rw [← hL5] at ev5
                  subst ev5
                  clear hL5
                  have HB5 : Hid (Below w.heap.size w w5) := Mm.hid (((HG.out.bel.drew.alloc HG.out.bel.size _)).grown hg2 (Nat.le_trans HG.out.bel.size (Nat.le_of_lt (Mm.heapLt (Mm.newAt wr.drew _ rfl)))) (fun g hg => by have := (HG.out.o2.lt hg).2; omega))
                  have hg3 := Mm.grAl hg2
                  have HG6 := Mm.hid (HG.out.add2 hown2 ⟨hg3.os, hg3.tape, hg3.output, hg3.size, hg3.block⟩ (by
                    rcases hl2 with e | e
                    · exact Or.inl e
                    · exact Or.inr (fun g hg => Nat.le_trans (Nat.le_of_lt (Mm.heapLt (Mm.newAt wr.drew _ rfl))) (e g hg))))
                  have hbx5 : w5.heap[w.heap.size + 1]? = some (.cells #[v1, v2] 115 (0, 0)) := (hg3.block _ HBL.out (fun e => by have := (HG.out.o2.lt e.symm).2; omega)).trans HBX.out
                  have q2 : w5.cell? ⟨w.heap.size + 1, 1, none⟩ = some v2 := Mm.cellOf hbx5 rfl
                  have q3 : w5.frozen? ⟨w.heap.size + 1, 1, none⟩ = false := by simp [World.frozen?, hbx5]
                  clear hown2 hg2 hl2 hg3 hbx5
                  refine hK.out _ _ (HS2.out _ HB5.out) (fun hHt24q => ?_)
                  clear hK K
                  refine wpAnyH_take (i := 12) (oi := ?ot25q12) (v := ?vt25q12) ?hit25q12 ?hst25q12 ?hft25q12 ?hrt25q12 ?hQt25q12 (Or.inl ⟨?hwt25q12, ?hyt25q12⟩) ?hSt25q12 ?restt25q12
                  case hit25q12 => (simp; rfl)
                  case hst25q12 => kernel_rfl
                  case hft25q12 => kernel_rfl
                  case hrt25q12 => kernel_rfl
                  case hQt25q12 => exact fun _ _ _ h => h
                  case hwt25q12 => rfl
                  case hyt25q12 => (intro wq hSq; (try dsimp only at hSq); go_simp; (try with_reducible rfl))
                  case hSt25q12 => assumption
                  simp only [Act.put, List.setIfInBounds_toArray, List.set_cons_zero, List.set_cons_succ]
                  refine wpAnyH_ready (rs := [13]) (by kernel_rfl) (by simp) ?_
                  refine AllReadyH.cons (o := ?ot26q) ?ht26q (fun K hK => ?rt26q) AllReadyH.nil
                  case ht26q => (simp; rfl)
                  case rt26q =>
                    go_simp
                    clear q2 q3
                    refine hK.out _ _ (HS2.out _ (Below.setCell HB5.out (p := ⟨w.heap.size + 1, 1, none⟩) (Nat.le_succ _) (.slice q5 L5 k5))) (fun hHt27q => ?_)
                    clear hK K
                    refine wpAnyH_done (by kernel_rfl) ?_ _
                    have HTK : Hid (T.take (i + 1 - l) = T.take (i - l) ++ [Q]) := Mm.hid (by rw [show i + 1 - l = i - l + 1 by omega, List.take_add_one, HTQ.out]; rfl)
                    have HRG6 : Hid (∃ v1 v2, Lf.RgS w (w5.setCell ⟨w.heap.size + 1, 1, none⟩ (.slice q5 L5 k5)) v1 v2 (Lf.keysIn frm tto (T.take (i - l)) ++ (Q.ks.take 0).filter (Lf.inR frm tto)) (Lf.nums (T.take (i + 1 - l)))) := Mm.hid ⟨v1, _, by
                      have h1 := HG6.out
                      rw [show Lf.nums (T.take (i - l)) ++ [Q.n] = Lf.nums (T.take (i + 1 - l)) by rw [HTK.out]; simp [Lf.nums]] at h1
                      simpa using h1⟩
                    generalize w5.setCell ⟨w.heap.size + 1, 1, none⟩ (.slice q5 L5 k5) = w6 at HRG6 ⊢
                    clear HB5 HG6 HOX hH
                    go_wp2_with fail
                    go_loopw [10] (fun vj w2 => ∃ j : Nat, j ≤ m ∧ vj = .int .i64 (j : Int) ∧ Hid (∃ v1 v2, Lf.RgS w w2 v1 v2 (Lf.keysIn frm tto (T.take (i - l)) ++ (Q.ks.take j).filter (Lf.inR frm tto)) (Lf.nums (T.take (i + 1 - l))))) (fun vj _ => m - (RowKit.intOf vj).toNat)
                    case atStart => exact ⟨0, Nat.zero_le _, rfl, HRG6⟩
                    case round =>
                      clear HRG6
                      obtain ⟨j, hj1, rfl, HJ⟩ := hrel
                      rename World => w2
                      obtain ⟨u1, u2, hju⟩ := HJ.out
                      have HU := Mm.hid hju
                      obtain ⟨b0, _, b3, b4⟩ := HSX.out w2 hju.bel
                      have HSI := Mm.hid b4
                      clear hju HJ b4
                      by_cases hjm : j < m
                      · obtain ⟨y, hy⟩ : ∃ y, Q.ks[j]? = some y := ⟨Q.ks[j]'(by rw [← HM.out]; exact hjm), List.getElem?_eq_getElem _⟩
                        have HY := Mm.hid hy
                        obtain ⟨bq, oq, rfl, hbq, hcq⟩ := HSI.out j y hy
                        have f1 : (0 : Int) ≤ (j : Int) := by omega
                        have f2 : (j : Int) < (m : Int) := by omega
                        have HTJ : Hid (Q.ks.take (j + 1) = Q.ks.take j ++ [y]) := Mm.hid (by rw [List.take_add_one, hy]; rfl)
                        have KEY : Hid ((!Op.bytesLess y.toList frm.toList && (tto.toList.isEmpty || Op.bytesLess y.toList tto.toList)) = Lf.inR frm tto y) := Mm.hid (by
                          unfold Lf.inR
                          show _ = (!Op.bytesLess y.toList frm.toList && (decide (tto = ⟨#[]⟩) || Op.bytesLess y.toList tto.toList))
                          by_cases h : tto = ⟨#[]⟩
                          · have e0 : tto.toList.isEmpty = true := by rw [h, ByteArray.toList_eq]; rfl
                            rw [e0, decide_eq_true h]
                          · rw [Lf.ne_emp h, decide_eq_false h])
                        obtain ⟨q6, c6, ev6, _⟩ := HU.out.o1.shape
                        obtain ⟨L6, hL6⟩ : ∃ L6, L6 = (Lf.strs (Lf.keysIn frm tto (T.take (i - l)) ++ (Q.ks.take j).filter (Lf.inR frm tto))).length := ⟨_, rfl⟩
                        rw [← hL6] at ev6
                        subst ev6
                        have HL6 := Mm.hid hL6
                        have t1 : w2.cell? ⟨w.heap.size + 1, 0, none⟩ = some (.slice q6 L6 c6) := Mm.cellOf HU.out.b7 rfl
                        clear hy hbq hL6
                        go_upto_region 15 with fail
                        go_cut [87] from 52 to 93 (fun vt wx => vt = .bool (Lf.inR frm tto y) ∧ wx = w2)
                        case first =>
                          go_wp2_with fail
                          all_goals
                            go_meet
                            case rel => exact ⟨by rw [← KEY.out]; simp_all, rfl⟩
                        case rest =>
                          obtain ⟨h87, hwc⟩ := hcut
                          subst h87
                          have hwc' := hwc.symm
                          subst hwc'
                          cases hin : Lf.inR frm tto y with
                          | false =>
                            have HN2 : Hid (∃ v1 v2, Lf.RgS w w2 v1 v2 (Lf.keysIn frm tto (T.take (i - l)) ++ (Q.ks.take (j + 1)).filter (Lf.inR frm tto)) (Lf.nums (T.take (i + 1 - l)))) := Mm.hid ⟨_, _, by
                              rw [HTJ.out, List.filter_append, show [y].filter (Lf.inR frm tto) = [] by simp [hin], List.append_nil]; exact HU.out⟩
                            go_wp2_with fail
                            exact ⟨⟨j + 1, by omega, by go_num, HN2⟩, by simp [RowKit.intOf]; omega⟩
                          | true =>
                            have HCNT : Hid ((Lf.strs (Lf.keysIn frm tto (T.take (i - l)) ++ (Q.ks.take j).filter (Lf.inR frm tto))).length < 1000000) := Mm.hid (Nat.lt_of_le_of_lt (Lf.cntR HT.out HTQ.out) (by have := HFL.out; omega))
                            have HSZ2 : Hid (w.heap.size + 2 ≤ w2.heap.size) := Mm.hid (Mm.heapLt HU.out.b7)
                            have HIN := Mm.hid hin
                            clear hin
                            go_wp2_with (at_builtin; refine Lf.appT w2 rfl _ _ rfl (w.heap.size + 2) (.slice q6 L6 c6) y _ rfl HU.out.o1 _ rfl (by simp) HCNT.out HSZ2.out ?_; intro v5 w5 h1 h2 h3; obtain ⟨q7, c7, ev7, _⟩ := h1.shape; obtain ⟨L7, hL7⟩ : ∃ L7, L7 = (Lf.strs (Lf.keysIn frm tto (T.take (i - l)) ++ (Q.ks.take j).filter (Lf.inR frm tto)) ++ [Value.string y]).length := ⟨_, rfl⟩; rw [← hL7] at ev7; subst ev7; clear hL7; have hbx5 : w5.heap[w.heap.size + 1]? = some (.cells #[.slice q6 L6 c6, u2] 115 (0, 0)) := (h2.block _ (Mm.heapLt HU.out.b7) (fun e => by have := (HU.out.o1.lt e.symm).2; omega)).trans HU.out.b7; have q2 : w5.cell? ⟨w.heap.size + 1, 0, none⟩ = some (.slice q6 L6 c6) := Mm.cellOf hbx5 rfl; have q3 : w5.frozen? ⟨w.heap.size + 1, 0, none⟩ = false := (by simp [World.frozen?, hbx5]); have HA1 := Mm.hid (HU.out.add1 h1 h2 h3))
                            have HN2 : Hid (∃ v1 v2, Lf.RgS w (w5.setCell ⟨w.heap.size + 1, 0, none⟩ (.slice q7 L7 c7)) v1 v2 (Lf.keysIn frm tto (T.take (i - l)) ++ (Q.ks.take (j + 1)).filter (Lf.inR frm tto)) (Lf.nums (T.take (i + 1 - l)))) := Mm.hid ⟨_, _, by
                              rw [HTJ.out, List.filter_append, show [y].filter (Lf.inR frm tto) = [y] by simp [HIN.out], ← List.append_assoc]; exact HA1.out⟩
                            exact ⟨⟨j + 1, by omega, by go_num, HN2⟩, by simp [RowKit.intOf]; omega⟩
                      · have he : j = m := by omega
                        subst he
                        have HN3 : Hid (∃ v1 v2, Lf.RgS w w2 v1 v2 (Lf.keysIn frm tto (T.take (i + 1 - l))) (Lf.nums (T.take (i + 1 - l)))) := Mm.hid ⟨_, _, by
                          have h1 := HU.out
                          have e2 : Q.ks.take j = Q.ks := List.take_of_length_le (by rw [HM.out]; exact Nat.le_refl _)
                          rw [e2] at h1
                          have e : Lf.keysIn frm tto (T.take (i + 1 - l)) = Lf.keysIn frm tto (T.take (i - l)) ++ Q.ks.filter (Lf.inR frm tto) := by
                            rw [HTK.out, Lf.keysIn_app, Lf.keysIn_one]
                          rw [e]; exact h1⟩
                        go_wp2_with fail
                        exact ⟨⟨i + 1, by omega, by omega, by go_num, HN3⟩, by simp [RowKit.intOf]; omega⟩
          · have he : i = e + 1 := by omega
            subst he
            obtain ⟨q1, k1, ev1, _⟩ := HG.out.o1.shape
            obtain ⟨q2, k2, ev2, _⟩ := HG.out.o2.shape
            obtain ⟨L1, hL1⟩ : ∃ L1, L1 = (Lf.strs (Lf.keysIn frm tto (T.take (e + 1 - l)))).length := ⟨_, rfl⟩
            obtain ⟨L2, hL2⟩ : ∃ L2, L2 = (Mm.nts (Lf.nums (T.take (e + 1 - l)))).length := ⟨_, rfl⟩
            rw [← hL1] at ev1
            rw [← hL2] at ev2
            clear hL1 hL2
            subst ev1 ev2
            have x0 : wr.cell? ⟨w.heap.size + 1, 0, none⟩ = some (.slice q1 L1 k1) := Mm.cellOf HG.out.b7 rfl
            have x1 : wr.cell? ⟨w.heap.size + 1, 1, none⟩ = some (.slice q2 L2 k2) := Mm.cellOf HG.out.b7 rfl
            have y0 : wr.cell? ⟨w.heap.size, 0, none⟩ = some (.slice none 0 0) := Mm.cellOf HG.out.b6 rfl
            have y1 : wr.cell? ⟨w.heap.size, 1, none⟩ = some (.slice none 0 0) := Mm.cellOf HG.out.b6 rfl
            have f0 : wr.frozen? ⟨w.heap.size, 0, none⟩ = false := by simp [World.frozen?, HG.out.b6]
            have f1 : wr.frozen? ⟨w.heap.size, 1, none⟩ = false := by simp [World.frozen?, HG.out.b6]
            obtain ⟨hc0, hc1⟩ := Lf.res2 (v1 := .slice q1 L1 k1) (v2 := .slice q2 L2 k2) HG.out.b6
            have HTW : Hid (Lf.Two w ((wr.setCell ⟨w.heap.size, 0, none⟩ (.slice q1 L1 k1)).setCell ⟨w.heap.size, 1, none⟩ (.slice q2 L2 k2)) (.slice q1 L1 k1) (.slice q2 L2 k2) (Lf.spanK s frm tto) (Lf.spanL s frm tto)) := Mm.hid (by
              have e3 : (P :: R).takeWhile (Lf.upTo tto) = T.take (e + 1 - l) := by
                have e4 : s.pgs.drop l = P :: R := by rw [HLL.out, HS.out.e]; simp
                rw [← e4, HE5.out, ← HT.out]
              have e1 : Lf.spanK s frm tto = Lf.keysIn frm tto (T.take (e + 1 - l)) := by
                unfold Lf.spanK Lf.rngK
                rw [if_neg HA.out, Lf.drop_spl hI.out HS.out, e3]
              have e2 : Lf.spanL s frm tto = Lf.nums (T.take (e + 1 - l)) := by
                unfold Lf.spanL Lf.rngL
                rw [if_neg HA.out, Lf.drop_spl hI.out HS.out, e3]
              rw [e1, e2]
              exact HG.out.done)
            go_wp2_with fail
            exact bodyPost_ret (v := .agg #[.slice q1 L1 k1, .slice q2 L2 k2]) (by simp [results, Tryz.results64, go_sem, hc0, hc1]) rfl ⟨_, _, rfl, HTW.out⟩

end Go.Proofs.YtjnaafgiokdcbaaGreatDoor
