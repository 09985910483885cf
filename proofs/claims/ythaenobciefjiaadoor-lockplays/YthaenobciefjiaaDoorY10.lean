/- The reference's Take walked. -/
import Derived.Test.YthaenobciefjiaaDoorYB
import Derived.Test.YthaenobciefjiaaDoorYD
namespace Go.Proofs.YthaenobciefjiaaDoor
open Go.RowKit

namespace Lk
variable {r : Rt} {x m : Int} {nm : Bytes}
theorem okR_no (h : x < 1 ∨ 200 < x ∨ m < 1 ∨ 8 < m ∨ 8 < nm.length) : okR x nm m = false := by
  unfold okR Md.isB
  rw [Bool.eq_false_iff]
  intro e
  simp only [Bool.and_eq_true, decide_eq_true_eq] at e
  omega
theorem okR_yes (h1 : ¬ x < 1) (h2 : ¬ 200 < x) (h3 : ¬ m < 1) (h4 : ¬ 8 < m) (h5 : ¬ 8 < nm.length) : okR x nm m = true := by
  unfold okR Md.isB
  simp only [Bool.and_eq_true, decide_eq_true_eq]
  omega
theorem takeT_arg (h : okR x nm m = false) : takeT r x nm m = (1, r) := by unfold takeT; rw [if_pos h]
theorem takeT_state (h : okR x nm m = true) {y : Hd} (hf : r.qu.find? (fun y => y.ho == x) = some y) : takeT r x nm m = (76, r) := by
  unfold takeT
  rw [if_neg (by rw [h]; decide), hf, if_pos (by rfl)]
theorem takeT_has (h : okR x nm m = true) (hf : r.qu.find? (fun y => y.ho == x) = none) (hs : setR r.has x nm &&& bit m ≠ 0) : takeT r x nm m = (0, r) := by
  unfold takeT
  rw [if_neg (by rw [h]; decide), hf, if_neg (by decide), if_pos hs]
theorem takeT_waits (h : okR x nm m = true) (hf : r.qu.find? (fun y => y.ho == x) = none) (hs : ¬ setR r.has x nm &&& bit m ≠ 0) (hb : barsRb r.has r.qu ⟨nm, x, m⟩ = true) : takeT r x nm m = (75, ⟨r.has, r.qu ++ [⟨nm, x, m⟩]⟩) := by
  unfold takeT
  rw [if_neg (by rw [h]; decide), hf, if_neg (by decide), if_neg hs, if_pos hb]
theorem takeT_gets (h : okR x nm m = true) (hf : r.qu.find? (fun y => y.ho == x) = none) (hs : ¬ setR r.has x nm &&& bit m ≠ 0) (hb : barsRb r.has r.qu ⟨nm, x, m⟩ = false) : takeT r x nm m = (0, ⟨r.has ++ [⟨nm, x, m⟩], r.qu⟩) := by
  unfold takeT
  rw [if_neg (by rw [h]; decide), hf, if_neg (by decide), if_neg hs, if_neg (by rw [hb]; decide)]
end Lk

set_option maxRecDepth 100000 in
set_option maxHeartbeats 16000000 in
theorem refTake_any (X : List Nat) (W : World) (T : Nat) (r : Lk.Rt) (x : Int) (nm : Lk.Bytes) (m : Int) (hR : Hid (Lk.Rm X W T r)) (hn : r.has.length ≤ 900 ∧ r.qu.length ≤ 900) (hnd : Hid ((r.qu.map (·.ho)).Nodup)) (hok : Hid (∀ y ∈ r.has, y.ok)) :
    Calls Tryd.prog 13 #[.pointer (some ⟨T, 0, none⟩), .int .i64 x, Lk.str nm, .int .i64 m] W fun e w' => e = .returned (.int .i64 (Lk.takeT r x nm m).1) ∧ Lk.Ends X W w' T (Lk.takeT r x nm m).2 := by
  have hsz : (⟨nm.toArray⟩ : ByteArray).size = nm.length := by simp [ByteArray.size]
  have HN := Lk.hid hn
  go_enter Tryd.func13, Tryd.ntmps13
  by_cases hbad : x < 1 ∨ 200 < x ∨ m < 1 ∨ 8 < m ∨ 8 < nm.length
  · have HT := Lk.hid (Lk.takeT_arg (r := r) (Lk.okR_no hbad))
    by_cases a1 : x < 1
    · go_wp2_with fail
      go_ret
      rw [HT.out]
      exact ⟨rfl, Lk.Ends.same hR.out (Below.refl _ _)⟩
    · by_cases a2 : 200 < x
      · go_wp2_with fail
        go_ret
        rw [HT.out]
        exact ⟨rfl, Lk.Ends.same hR.out (Below.refl _ _)⟩
      · by_cases a3 : m < 1
        · go_wp2_with fail
          go_ret
          rw [HT.out]
          exact ⟨rfl, Lk.Ends.same hR.out (Below.refl _ _)⟩
        · by_cases a4 : 8 < m
          · go_wp2_with fail
            go_ret
            rw [HT.out]
            exact ⟨rfl, Lk.Ends.same hR.out (Below.refl _ _)⟩
          · have a5 : (8 : Int) < (nm.length : Int) := by omega
            go_wp2_with fail
            go_ret
            rw [HT.out]
            exact ⟨rfl, Lk.Ends.same hR.out (Below.refl _ _)⟩
  · have a1 : ¬ x < 1 := by omega
    have a2 : ¬ 200 < x := by omega
    have a3 : ¬ m < 1 := by omega
    have a4 : ¬ 8 < m := by omega
    have a5 : ¬ (8 : Int) < (nm.length : Int) := by omega
    have HOK := Lk.hid (Lk.okR_yes (nm := nm) a1 a2 a3 a4 (by omega))
    have hmb : 1 ≤ m ∧ m ≤ 8 := by omega
    clear hbad
    go_wp2_with fail
    refine (refFind_any X W T r x hR (by omega)).mono ?_
    rintro e w' ⟨k, rfl, hf, hq⟩
    obtain rfl := hq.symm
    rcases Lk.find_is hnd.out hf with ⟨rfl, hf2⟩ | ⟨i, y, rfl, hy, hyx, hf2⟩
    · have HF := Lk.hid hf2
      obtain ⟨mk, rfl⟩ : ∃ k : Nat, m = (k : Int) := ⟨m.toNat, by omega⟩
      have hset := Lk.setR_lt hok.out x nm
      have hin : (Md.inB (Lk.setR r.has x nm : Int) mk) = decide (Lk.setR r.has x nm &&& Lk.bit (mk : Int) ≠ 0) := by
        rw [Bool.eq_iff_iff, decide_eq_true_eq, ← Lk.in_bit_iff hset]
        exact Iff.rfl
      clear hf hf2 hset
      by_cases hs : Lk.setR r.has x nm &&& Lk.bit (mk : Int) ≠ 0
      · have HT := Lk.hid (Lk.takeT_has HOK.out HF.out hs)
        have HIN : Hid (Md.inB (Lk.setR r.has x nm : Int) mk = true) := Lk.hid (by rw [hin]; simpa using hs)
        clear hin hs
        go_wp2_with (first | (go_at_call 20; refine (refSet_any X _ T r x nm hR (by have := HN.out; omega) hok).mono ?_; rintro e w' ⟨rfl, hq⟩; obtain rfl := hq.symm) | (go_at_call 28; refine (refIn_any _ mk _ (by omega)).mono ?_; rintro e w' ⟨rfl, hq⟩; obtain rfl := hq.symm; rw [HIN.out]))
        go_ret
        rw [HT.out]
        exact ⟨rfl, Lk.Ends.same hR.out (Below.refl _ _)⟩
      · have HS := Lk.hid hs
        have HIN : Hid (Md.inB (Lk.setR r.has x nm : Int) mk = false) := Lk.hid (by rw [hin]; simpa using hs)
        clear hin hs
        obtain ⟨pb, cb, hcb, hinb, -, hnilb, -⟩ := hR.out.qu
        obtain ⟨nq, hnq⟩ : ∃ nq, nq = r.qu.length := ⟨_, rfl⟩
        rw [← hnq] at hcb hnilb
        have HQB : Hid ((pb = none → nq = 0 ∧ cb = 0) ∧ Lk.Lies W pb (Lk.cellsH r.qu)) := Lk.hid ⟨hnilb, hinb⟩
        obtain ⟨iH, HIH⟩ : ∃ i, Hid (Tryd.prog.info? 71 = some i ∧ i.zero = some (.agg #[.string ⟨#[]⟩, .int .i64 0, .int .i64 0]) ∧ i.size = 3 ∧ i.bytes = 32) := ⟨_, Tryd.type71, rfl, rfl, rfl⟩
        clear hinb hnilb
        have HNQ := Lk.hid hnq
        clear hnq
        cases hbb : Lk.barsRb r.has r.qu ⟨nm, x, (mk : Int)⟩
        · have HT := Lk.hid (Lk.takeT_gets HOK.out HF.out HS.out hbb)
          have HBB := Lk.hid hbb
          clear hbb
          go_wp2_with (first | (go_at_call 20; refine (refSet_any X _ T r x nm hR (by have := HN.out; omega) hok).mono ?_; rintro e w' ⟨rfl, hq⟩; obtain rfl := hq.symm) | (go_at_call 28; refine (refIn_any _ mk _ (by omega)).mono ?_; rintro e w' ⟨rfl, hq⟩; obtain rfl := hq.symm; rw [HIN.out]))
          have HB1 : Hid (Below W.heap.size W (W.alloc (.cells #[Lk.str nm, .int .i64 x, .int .i64 (mk : Int)] 71))) := Lk.hid (Lk.belAl (Below.refl _ _) _)
          have HX1 : Hid (Lk.Box3 (W.alloc (.cells #[Lk.str nm, .int .i64 x, .int .i64 (mk : Int)] 71)) W.heap.size ⟨nm, x, (mk : Int)⟩) := Lk.hid (Lk.Box3.new W ⟨nm, x, (mk : Int)⟩)
          have HR1 : Hid (Lk.Rm X (W.alloc (.cells #[Lk.str nm, .int .i64 x, .int .i64 (mk : Int)] 71)).drew T r) := Lk.hid (hR.out.below HB1.out.drew)
          have hT := hR.out.lt
          have HS8 : Hid (∀ w', Below (W.alloc (.cells #[Lk.str nm, .int .i64 x, .int .i64 (mk : Int)] 71)).heap.size (W.alloc (.cells #[Lk.str nm, .int .i64 x, .int .i64 (mk : Int)] 71)) w' → w'.cell? ⟨T, 1, none⟩ = some (.slice pb nq cb) ∧ w'.cell? ⟨W.heap.size, 0, none⟩ = some (Lk.str nm) ∧ w'.cell? ⟨W.heap.size, 1, none⟩ = some (.int .i64 x) ∧ w'.cell? ⟨W.heap.size, 2, none⟩ = some (.int .i64 (mk : Int))) := Lk.hid (fun w' hb => ⟨(Lk.belAt (Lk.belTr HB1.out hb) 1 hT).trans hcb, Lk.boxS (HX1.out.below hb)⟩)
          go_region_held3 (fun w' => w'.cell? ⟨T, 1, none⟩ = some (.slice pb nq cb) ∧ w'.cell? ⟨W.heap.size, 0, none⟩ = some (Lk.str nm) ∧ w'.cell? ⟨W.heap.size, 1, none⟩ = some (.int .i64 x) ∧ w'.cell? ⟨W.heap.size, 2, none⟩ = some (.int .i64 (mk : Int))) (first | exact HS8.out _ (Below.refl _ _).drew | exact HS8.out _ HB2.out) ((go_at_call 35; refine (refBarring_any X _ T r ⟨nm, x, (mk : Int)⟩ nq HR1 (by have := HN.out; omega) (Nat.le_of_eq HNQ.out) hok).mono ?_; rintro e w ⟨p2, c2, l2, rfl, s1, s2, s3, s4, s5⟩; obtain ⟨n2, hn2⟩ : ∃ n2, n2 = l2.length := ⟨_, rfl⟩; rw [← hn2]; have HB2 : Hid (Below (W.alloc (.cells #[Lk.str nm, .int .i64 x, .int .i64 (mk : Int)] 71)).heap.size (W.alloc (.cells #[Lk.str nm, .int .i64 x, .int .i64 (mk : Int)] 71)) w) := Lk.hid (Lk.belTr (Below.refl _ _).drew s5); have hlb : decide ((0 : Int) < (l2.length : Int)) = false := (by rw [Lk.bars_nil s3, HNQ.out, List.take_length]; exact HBB.out); rw [← hn2] at hlb; have hlen : n2 = 0 := (by have h9 := of_decide_eq_false hlb; omega); subst hlen; clear hlb s1 s2 s3 s4 s5 hn2))
          go_wp2_with fail
          have HBW : Hid (Below W.heap.size W w) := Lk.hid (Lk.belTr HB1.out HB2.out)
          have HXW : Hid (Lk.Box3 w W.heap.size ⟨nm, x, (mk : Int)⟩) := Lk.hid (HX1.out.below HB2.out)
          have HRW := Lk.hid (hR.out.below HBW.out)
          have HTW : Hid (T < w.heap.size) := Lk.hid HRW.out.lt
          have HNE : Hid (W.heap.size ≠ T) := Lk.hid (by omega)
          obtain ⟨pa, ca, hca, hina, -, hnila, -⟩ := HRW.out.has
          obtain ⟨nh, hnh⟩ : ∃ nh, nh = r.has.length := ⟨_, rfl⟩
          rw [← hnh] at hca hnila
          have HNH := Lk.hid hnh
          have HCW := Lk.hid hca
          have HLQ : Hid ((pa = none → nh = 0 ∧ ca = 0) ∧ (Lk.cellsH r.has).length = nh * 3 ∧ Lk.Lies w pa (Lk.cellsH r.has)) := Lk.hid ⟨hnila, by rw [Lk.cellsH_length, hnh], hina⟩
          have hnq2 : nh ≤ 900 := by rw [hnh]; exact HN.out.1
          clear hca hina hnila hnh
          clear HS8 hT HR1 HX1 HB1 HB2
          refine wp_region_held_drew (S := (fun w' => w'.cell? ⟨W.heap.size, 0, none⟩ = some (Lk.str nm) ∧ w'.cell? ⟨W.heap.size, 1, none⟩ = some (.int .i64 x) ∧ w'.cell? ⟨W.heap.size, 2, none⟩ = some (.int .i64 (mk : Int)))) (by kernel_rfl) (Lk.boxS (HXW.out.below (Below.refl _ _).drew)) (fun hH => ?_)
          refine wpAnyH_take (i := 0) (oi := ?oz1q0) (v := ?vz1q0) ?hiz1q0 ?hsz1q0 ?hfz1q0 ?hrz1q0 ?hQz1q0 (Or.inl ⟨?hwz1q0, ?hyz1q0⟩) ?hSz1q0 ?restz1q0
          case hiz1q0 => (simp; rfl)
          case hsz1q0 => kernel_rfl
          case hfz1q0 => kernel_rfl
          case hrz1q0 => kernel_rfl
          case hQz1q0 => exact fun _ _ _ h => h
          case hwz1q0 => rfl
          case hyz1q0 => (intro wq hSq; (try dsimp only at hSq); go_simp; (try with_reducible rfl))
          case hSz1q0 => assumption
          simp only [Act.put, List.setIfInBounds_toArray, List.set_cons_zero, List.set_cons_succ]
          refine wpAnyH_take (i := 2) (oi := ?oz2q2) (v := ?vz2q2) ?hiz2q2 ?hsz2q2 ?hfz2q2 ?hrz2q2 ?hQz2q2 (Or.inl ⟨?hwz2q2, ?hyz2q2⟩) ?hSz2q2 ?restz2q2
          case hiz2q2 => (simp; rfl)
          case hsz2q2 => kernel_rfl
          case hfz2q2 => kernel_rfl
          case hrz2q2 => kernel_rfl
          case hQz2q2 => exact fun _ _ _ h => h
          case hwz2q2 => rfl
          case hyz2q2 => (intro wq hSq; (try dsimp only at hSq); go_simp; (try with_reducible rfl))
          case hSz2q2 => assumption
          simp only [Act.put, List.setIfInBounds_toArray, List.set_cons_zero, List.set_cons_succ]
          refine wpAnyH_take (i := 3) (oi := ?oz3q3) (v := ?vz3q3) ?hiz3q3 ?hsz3q3 ?hfz3q3 ?hrz3q3 ?hQz3q3 (Or.inl ⟨?hwz3q3, ?hyz3q3⟩) ?hSz3q3 ?restz3q3
          case hiz3q3 => (simp; rfl)
          case hsz3q3 => kernel_rfl
          case hfz3q3 => kernel_rfl
          case hrz3q3 => kernel_rfl
          case hQz3q3 => exact fun _ _ _ h => h
          case hwz3q3 => rfl
          case hyz3q3 => (intro wq hSq; (try dsimp only at hSq); go_simp; (try with_reducible rfl))
          case hSz3q3 => assumption
          simp only [Act.put, List.setIfInBounds_toArray, List.set_cons_zero, List.set_cons_succ]
          refine wpAnyH_take (i := 4) (oi := ?oz4q4) (v := ?vz4q4) ?hiz4q4 ?hsz4q4 ?hfz4q4 ?hrz4q4 ?hQz4q4 (Or.inl ⟨?hwz4q4, ?hyz4q4⟩) ?hSz4q4 ?restz4q4
          case hiz4q4 => (simp; rfl)
          case hsz4q4 => kernel_rfl
          case hfz4q4 => kernel_rfl
          case hrz4q4 => kernel_rfl
          case hQz4q4 => exact fun _ _ _ h => h
          case hwz4q4 => rfl
          case hyz4q4 => (intro wq hSq; (try dsimp only at hSq); go_simp; (try with_reducible rfl))
          case hSz4q4 => assumption
          simp only [Act.put, List.setIfInBounds_toArray, List.set_cons_zero, List.set_cons_succ]
          refine wpAnyH_take (i := 7) (oi := ?oz5q7) (v := ?vz5q7) ?hiz5q7 ?hsz5q7 ?hfz5q7 ?hrz5q7 ?hQz5q7 (Or.inl ⟨?hwz5q7, ?hyz5q7⟩) ?hSz5q7 ?restz5q7
          case hiz5q7 => (simp; rfl)
          case hsz5q7 => kernel_rfl
          case hfz5q7 => kernel_rfl
          case hrz5q7 => kernel_rfl
          case hQz5q7 => exact fun _ _ _ h => h
          case hwz5q7 => rfl
          case hyz5q7 => (intro wq hSq; (try dsimp only at hSq); go_simp; (try with_reducible rfl))
          case hSz5q7 => assumption
          simp only [Act.put, List.setIfInBounds_toArray, List.set_cons_zero, List.set_cons_succ]
          apply Lk.mergeH
          case m =>
            intro zkC
            apply Lk.mergeH
            case m =>
              intro zkB
              apply Lk.mergeH
              case m =>
                intro zkA
                refine wpAnyH_ready (rs := [1, 5, 8]) (by kernel_rfl) (by simp) ?_
                refine AllReadyH.cons (o := ?oz6q) ?hz6q (fun K hK => ?rz6q) (AllReadyH.cons (o := ?oz7q) ?hz7q (fun K hK => ?rz7q) (AllReadyH.cons (o := ?oz8q) ?hz8q (fun K hK => ?rz8q) AllReadyH.nil))
                case hz6q => (simp; rfl)
                case hz7q => (simp; rfl)
                case hz8q => (simp; rfl)
                case rz6q =>
                  go_simp
                  refine hK.out _ _ (Lk.boxS (HXW.out.below ((Lk.Blk.new2 (Below.refl _ w) _ (g := w.heap.size) rfl).drew.bel))) (fun hHz9q => ?_)
                  clear hK K
                  refine wpAnyH_ready (rs := [5, 8]) (by kernel_rfl) (by simp) ?_
                  refine AllReadyH.cons (o := ?oz10q) ?hz10q (fun K hK => ?rz10q) (AllReadyH.cons (o := ?oz11q) ?hz11q (fun K hK => ?rz11q) AllReadyH.nil)
                  case hz10q => (simp; rfl)
                  case hz11q => (simp; rfl)
                  case rz10q =>
                    have hc5 := (Lk.belAt ((Lk.belAl (Below.refl _ w) (.cells #[] 71)).drew) 0 HTW.out).trans HCW.out
                    go_simp
                    clear hc5
                    refine hK.out _ _ (Lk.boxS (HXW.out.below ((Lk.Blk.new2 (Below.refl _ w) _ (g := w.heap.size) rfl).drew.bel))) (fun hHz12q => ?_)
                    clear hK K
                    exact zkA
                  case rz11q =>
                    go_simp
                    refine hK.out _ _ (Lk.boxS (HXW.out.below ((Lk.Blk.new2 (Lk.belAl (Below.refl _ w) _) _ (g := w.heap.size + 1) (by simp)).drew.bel))) (fun hHz13q => ?_)
                    clear hK K
                    refine wpAnyH_ready (rs := [5]) (by kernel_rfl) (by simp) ?_
                    refine AllReadyH.cons (o := ?oz14q) ?hz14q (fun K hK => ?rz14q) AllReadyH.nil
                    case hz14q => (simp; rfl)
                    case rz14q =>
                      have hc5 := (Lk.belAt ((Lk.belAl (Lk.belAl (Below.refl _ w) (.cells #[] 71)) (.cells #[Lk.str nm, .int .i64 x, .int .i64 (mk : Int)] 71)).drew) 0 HTW.out).trans HCW.out
                      go_simp
                      clear hc5
                      refine hK.out _ _ (Lk.boxS (HXW.out.below ((Lk.Blk.new2 (Lk.belAl (Below.refl _ w) _) _ (g := w.heap.size + 1) (by simp)).drew.bel))) (fun hHz15q => ?_)
                      clear hK K
                      exact zkB
                case rz7q =>
                  have hc5 := (Lk.belAt ((Below.refl _ w).drew) 0 HTW.out).trans HCW.out
                  go_simp
                  clear hc5
                  refine hK.out _ _ (Lk.boxS (HXW.out.below ((Below.refl _ _).drew))) (fun hHz16q => ?_)
                  clear hK K
                  refine wpAnyH_ready (rs := [1, 8]) (by kernel_rfl) (by simp) ?_
                  refine AllReadyH.cons (o := ?oz17q) ?hz17q (fun K hK => ?rz17q) (AllReadyH.cons (o := ?oz18q) ?hz18q (fun K hK => ?rz18q) AllReadyH.nil)
                  case hz17q => (simp; rfl)
                  case hz18q => (simp; rfl)
                  case rz17q =>
                    go_simp
                    refine hK.out _ _ (Lk.boxS (HXW.out.below ((Lk.Blk.new2 (Below.refl _ w) _ (g := w.heap.size) rfl).drew.bel))) (fun hHz19q => ?_)
                    clear hK K
                    exact Lk.wpAnyH_eq (by kernel_rfl) zkA
                  case rz18q =>
                    go_simp
                    refine hK.out _ _ (Lk.boxS (HXW.out.below ((Lk.Blk.new2 (Below.refl _ w) _ (g := w.heap.size) rfl).drew.bel))) (fun hHz20q => ?_)
                    clear hK K
                    refine wpAnyH_ready (rs := [1]) (by kernel_rfl) (by simp) ?_
                    refine AllReadyH.cons (o := ?oz21q) ?hz21q (fun K hK => ?rz21q) AllReadyH.nil
                    case hz21q => (simp; rfl)
                    case rz21q =>
                      go_simp
                      refine hK.out _ _ (Lk.boxS (HXW.out.below ((Lk.Blk.new2 (Lk.belAl (Below.refl _ w) _) _ (g := w.heap.size + 1) (by simp)).drew.bel))) (fun hHz22q => ?_)
                      clear hK K
                      exact zkC
                case rz8q =>
                  go_simp
                  refine hK.out _ _ (Lk.boxS (HXW.out.below ((Lk.Blk.new2 (Below.refl _ w) _ (g := w.heap.size) rfl).drew.bel))) (fun hHz23q => ?_)
                  clear hK K
                  refine wpAnyH_ready (rs := [1, 5]) (by kernel_rfl) (by simp) ?_
                  refine AllReadyH.cons (o := ?oz24q) ?hz24q (fun K hK => ?rz24q) (AllReadyH.cons (o := ?oz25q) ?hz25q (fun K hK => ?rz25q) AllReadyH.nil)
                  case hz24q => (simp; rfl)
                  case hz25q => (simp; rfl)
                  case rz24q =>
                    go_simp
                    refine hK.out _ _ (Lk.boxS (HXW.out.below ((Lk.Blk.new2 (Lk.belAl (Below.refl _ w) _) _ (g := w.heap.size + 1) (by simp)).drew.bel))) (fun hHz26q => ?_)
                    clear hK K
                    refine wpAnyH_ready (rs := [5]) (by kernel_rfl) (by simp) ?_
                    refine AllReadyH.cons (o := ?oz27q) ?hz27q (fun K hK => ?rz27q) AllReadyH.nil
                    case hz27q => (simp; rfl)
                    case rz27q =>
                      have hc5 := (Lk.belAt ((Lk.belAl (Lk.belAl (Below.refl _ w) (.cells #[Lk.str nm, .int .i64 x, .int .i64 (mk : Int)] 71)) (.cells #[] 71)).drew) 0 HTW.out).trans HCW.out
                      go_simp
                      clear hc5
                      refine hK.out _ _ (Lk.boxS (HXW.out.below ((Lk.Blk.new2 (Lk.belAl (Below.refl _ w) _) _ (g := w.heap.size + 1) (by simp)).drew.bel))) (fun hHz28q => ?_)
                      clear hK K
                      exact Lk.wpAnyH_eq (by kernel_rfl) zkC
                  case rz25q =>
                    have hc5 := (Lk.belAt ((Lk.belAl (Below.refl _ w) (.cells #[Lk.str nm, .int .i64 x, .int .i64 (mk : Int)] 71)).drew) 0 HTW.out).trans HCW.out
                    go_simp
                    clear hc5
                    refine hK.out _ _ (Lk.boxS (HXW.out.below ((Lk.Blk.new2 (Below.refl _ w) _ (g := w.heap.size) rfl).drew.bel))) (fun hHz29q => ?_)
                    clear hK K
                    refine wpAnyH_ready (rs := [1]) (by kernel_rfl) (by simp) ?_
                    refine AllReadyH.cons (o := ?oz30q) ?hz30q (fun K hK => ?rz30q) AllReadyH.nil
                    case hz30q => (simp; rfl)
                    case rz30q =>
                      go_simp
                      refine hK.out _ _ (Lk.boxS (HXW.out.below ((Lk.Blk.new2 (Lk.belAl (Below.refl _ w) _) _ (g := w.heap.size + 1) (by simp)).drew.bel))) (fun hHz31q => ?_)
                      clear hK K
                      exact Lk.wpAnyH_eq (by kernel_rfl) zkC
              case p =>
                refine wpAnyH_ready (rs := [6, 8]) (by kernel_rfl) (by simp) ?_
                refine AllReadyH.cons (o := ?oz32q) ?hz32q (fun K hK => ?rz32q) (AllReadyH.cons (o := ?oz33q) ?hz33q (fun K hK => ?rz33q) AllReadyH.nil)
                case hz32q => (simp; rfl)
                case hz33q => (simp; rfl)
                case rz32q =>
                  refine Lk.step_append rfl _ _ 26 rfl w.heap.size 71 iH (.agg #[.string ⟨#[]⟩, .int .i64 0, .int .i64 0]) 3 32 Tryd.underlying26 HIH.out.1 HIH.out.2.1 HIH.out.2.2.1 HIH.out.2.2.2 rfl (by decide) (.slice (some ⟨w.heap.size, 0, none⟩) 0 0) 0 ([]) rfl (((Lk.Blk.new2 (Below.refl _ w) _ (g := w.heap.size) rfl).drew).own) pa nh ca (Lk.cellsH r.has) rfl (HLQ.out.1) (HLQ.out.2.1) (HLQ.out.2.2.below ((Lk.Blk.new2 (Below.refl _ w) _ (g := w.heap.size) rfl).drew).bel) (Lk.cellsH_one _) (by unfold maxLen; omega) (by omega) ((((Lk.Blk.new2 (Below.refl _ w) _ (g := w.heap.size) rfl).drew).bel).size) ?_
                  intro v1 W1 hown1 hgrow1
                  rw [List.nil_append, Nat.zero_add] at hown1
                  have HB1 := Lk.hid (Lk.belOwn (size := 3) (((Lk.Blk.new2 (Below.refl _ w) _ (g := w.heap.size) rfl).drew).bel) (((Lk.Blk.new2 (Below.refl _ w) _ (g := w.heap.size) rfl).drew).own) (Nat.le_refl _) hgrow1)
                  have HOWN1 := Lk.hid hown1
                  clear hown1 hgrow1
                  refine hK.out _ _ (Lk.boxS (HXW.out.below (HB1.out))) (fun hHz34q => ?_)
                  clear hK K
                  refine wpAnyH_ready (rs := [8]) (by kernel_rfl) (by simp) ?_
                  refine AllReadyH.cons (o := ?oz35q) ?hz35q (fun K hK => ?rz35q) AllReadyH.nil
                  case hz35q => (simp; rfl)
                  case rz35q =>
                    go_simp
                    refine hK.out _ _ (Lk.boxS (HXW.out.below (Lk.belAl HB1.out _))) (fun hHz36q => ?_)
                    clear hK K
                    refine wpAnyH_ready (rs := [9]) (by kernel_rfl) (by simp) ?_
                    refine AllReadyH.cons (o := ?oz37q) ?hz37q (fun K hK => ?rz37q) AllReadyH.nil
                    case hz37q => (simp; rfl)
                    case rz37q =>
                      refine Lk.step_append rfl _ _ 26 rfl w.heap.size 71 iH (.agg #[.string ⟨#[]⟩, .int .i64 0, .int .i64 0]) 3 32 Tryd.underlying26 HIH.out.1 HIH.out.2.1 HIH.out.2.2.1 HIH.out.2.2.2 rfl (by decide) v1 nh (Lk.cellsH r.has) rfl (HOWN1.out.alloc _) (some ⟨W1.heap.size, 0, none⟩) 1 1 (Lk.cellsH [⟨nm, x, (mk : Int)⟩]) rfl (fun h => nomatch h) (rfl) ((Lk.Blk.new HB1.out _).lies (cs := Lk.cellsH [⟨nm, x, (mk : Int)⟩])) (Lk.cellsH_one _) (by unfold maxLen; omega) (by omega) ((Lk.belAl HB1.out _).size) ?_
                      intro v2 W2 hown2 hgrow2
                      have HB2 := Lk.hid (Lk.belOwn (size := 3) (Lk.belAl HB1.out _) (HOWN1.out.alloc _) (Nat.le_refl _) hgrow2)
                      have HOWN2 := Lk.hid hown2
                      clear hown2 hgrow2
                      refine hK.out _ _ (Lk.boxS (HXW.out.below (HB2.out))) (fun hHz38q => ?_)
                      clear hK K
                      refine wpAnyH_take (i := 10) (oi := ?oz39q10) (v := ?vz39q10) ?hiz39q10 ?hsz39q10 ?hfz39q10 ?hrz39q10 ?hQz39q10 (Or.inl ⟨?hwz39q10, ?hyz39q10⟩) ?hSz39q10 ?restz39q10
                      case hiz39q10 => (simp; rfl)
                      case hsz39q10 => kernel_rfl
                      case hfz39q10 => kernel_rfl
                      case hrz39q10 => kernel_rfl
                      case hQz39q10 => exact fun _ _ _ h => h
                      case hwz39q10 => rfl
                      case hyz39q10 => (intro wq hSq; (try dsimp only at hSq); go_simp; (try with_reducible rfl))
                      case hSz39q10 => assumption
                      simp only [Act.put, List.setIfInBounds_toArray, List.set_cons_zero, List.set_cons_succ]
                      refine wpAnyH_take (i := 11) (oi := ?oz40q11) (v := ?vz40q11) ?hiz40q11 ?hsz40q11 ?hfz40q11 ?hrz40q11 ?hQz40q11 (Or.inl ⟨?hwz40q11, ?hyz40q11⟩) ?hSz40q11 ?restz40q11
                      case hiz40q11 => (simp; rfl)
                      case hsz40q11 => kernel_rfl
                      case hfz40q11 => kernel_rfl
                      case hrz40q11 => kernel_rfl
                      case hQz40q11 => exact fun _ _ _ h => h
                      case hwz40q11 => rfl
                      case hyz40q11 => (intro wq hSq; (try dsimp only at hSq); go_simp; (try with_reducible rfl))
                      case hSz40q11 => assumption
                      simp only [Act.put, List.setIfInBounds_toArray, List.set_cons_zero, List.set_cons_succ]
                      refine wpAnyH_ready (rs := [12]) (by kernel_rfl) (by simp) ?_
                      refine AllReadyH.cons (o := ?oz41q) ?hz41q (fun K hK => ?rz41q) AllReadyH.nil
                      case hz41q => (simp; rfl)
                      case rz41q =>
                        obtain ⟨pS, cS, rfl, -⟩ := Lk.Sl.own HOWN2.out
                        have hcT := (Lk.belAt HB2.out 0 HTW.out).trans HCW.out
                        have hfz := HRW.out.frz HB2.out 0
                        go_simp
                        clear hcT hfz
                        refine hK.out _ _ (Lk.boxS ((HXW.out.below HB2.out).set HNE.out 0 _)) (fun hHz42q => ?_)
                        clear hK K
                        refine wpAnyH_done (by kernel_rfl) ?_ _
                        go_wp2_with fail
                        go_ret
                        rw [HT.out]
                        exact ⟨rfl, Lk.Ends.store0 hR.out (Lk.belTr HBW.out HB2.out) (by rw [Lk.cellsH_app]; exact HOWN2.out) HBW.out.size (by simp [HNH.out])⟩
                case rz33q =>
                  go_simp
                  refine hK.out _ _ (Lk.boxS (HXW.out.below ((Lk.Blk.new2 (Lk.belAl (Below.refl _ w) _) _ (g := w.heap.size + 1) (by simp)).drew.bel))) (fun hHz43q => ?_)
                  clear hK K
                  exact Lk.wpAnyH_eq (by kernel_rfl) zkB
            case p =>
              refine wpAnyH_ready (rs := [6]) (by kernel_rfl) (by simp) ?_
              refine AllReadyH.cons (o := ?oz44q) ?hz44q (fun K hK => ?rz44q) AllReadyH.nil
              case hz44q => (simp; rfl)
              case rz44q =>
                refine Lk.step_append rfl _ _ 26 rfl w.heap.size 71 iH (.agg #[.string ⟨#[]⟩, .int .i64 0, .int .i64 0]) 3 32 Tryd.underlying26 HIH.out.1 HIH.out.2.1 HIH.out.2.2.1 HIH.out.2.2.2 rfl (by decide) (.slice (some ⟨w.heap.size, 0, none⟩) 0 0) 0 ([]) rfl ((((Lk.Blk.new2 (Below.refl _ w) _ (g := w.heap.size) rfl).alloc _).drew).own) pa nh ca (Lk.cellsH r.has) rfl (HLQ.out.1) (HLQ.out.2.1) (HLQ.out.2.2.below (((Lk.Blk.new2 (Below.refl _ w) _ (g := w.heap.size) rfl).alloc _).drew).bel) (Lk.cellsH_one _) (by unfold maxLen; omega) (by omega) (((((Lk.Blk.new2 (Below.refl _ w) _ (g := w.heap.size) rfl).alloc _).drew).bel).size) ?_
                intro v1 W1 hown1 hgrow1
                rw [List.nil_append, Nat.zero_add] at hown1
                have HB1 := Lk.hid (Lk.belOwn (size := 3) ((((Lk.Blk.new2 (Below.refl _ w) _ (g := w.heap.size) rfl).alloc _).drew).bel) ((((Lk.Blk.new2 (Below.refl _ w) _ (g := w.heap.size) rfl).alloc _).drew).own) (Nat.le_refl _) hgrow1)
                have HOWN1 := Lk.hid hown1
                have HX1 := Lk.hid (((Lk.Blk.new2 (Lk.belAl (Below.refl _ w) _) _ (g := w.heap.size + 1) (by simp)).drew).grown hgrow1 (by simp [Value.ownBlock]) (fun k hk => by cases hk; exact Nat.le_refl _))
                clear hown1 hgrow1
                refine hK.out _ _ (Lk.boxS (HXW.out.below (HB1.out))) (fun hHz45q => ?_)
                clear hK K
                refine wpAnyH_ready (rs := [9]) (by kernel_rfl) (by simp) ?_
                refine AllReadyH.cons (o := ?oz46q) ?hz46q (fun K hK => ?rz46q) AllReadyH.nil
                case hz46q => (simp; rfl)
                case rz46q =>
                  refine Lk.step_append rfl _ _ 26 rfl w.heap.size 71 iH (.agg #[.string ⟨#[]⟩, .int .i64 0, .int .i64 0]) 3 32 Tryd.underlying26 HIH.out.1 HIH.out.2.1 HIH.out.2.2.1 HIH.out.2.2.2 rfl (by decide) v1 nh (Lk.cellsH r.has) rfl (HOWN1.out) (some ⟨w.heap.size + 1, 0, none⟩) 1 1 (Lk.cellsH [⟨nm, x, (mk : Int)⟩]) rfl (fun h => nomatch h) (rfl) (HX1.out.lies (cs := Lk.cellsH [⟨nm, x, (mk : Int)⟩])) (Lk.cellsH_one _) (by unfold maxLen; omega) (by omega) ((HB1.out).size) ?_
                  intro v2 W2 hown2 hgrow2
                  have HB2 := Lk.hid (Lk.belOwn (size := 3) (HB1.out) (HOWN1.out) (Nat.le_refl _) hgrow2)
                  have HOWN2 := Lk.hid hown2
                  clear hown2 hgrow2
                  refine hK.out _ _ (Lk.boxS (HXW.out.below (HB2.out))) (fun hHz47q => ?_)
                  clear hK K
                  refine wpAnyH_take (i := 10) (oi := ?oz48q10) (v := ?vz48q10) ?hiz48q10 ?hsz48q10 ?hfz48q10 ?hrz48q10 ?hQz48q10 (Or.inl ⟨?hwz48q10, ?hyz48q10⟩) ?hSz48q10 ?restz48q10
                  case hiz48q10 => (simp; rfl)
                  case hsz48q10 => kernel_rfl
                  case hfz48q10 => kernel_rfl
                  case hrz48q10 => kernel_rfl
                  case hQz48q10 => exact fun _ _ _ h => h
                  case hwz48q10 => rfl
                  case hyz48q10 => (intro wq hSq; (try dsimp only at hSq); go_simp; (try with_reducible rfl))
                  case hSz48q10 => assumption
                  simp only [Act.put, List.setIfInBounds_toArray, List.set_cons_zero, List.set_cons_succ]
                  refine wpAnyH_take (i := 11) (oi := ?oz49q11) (v := ?vz49q11) ?hiz49q11 ?hsz49q11 ?hfz49q11 ?hrz49q11 ?hQz49q11 (Or.inl ⟨?hwz49q11, ?hyz49q11⟩) ?hSz49q11 ?restz49q11
                  case hiz49q11 => (simp; rfl)
                  case hsz49q11 => kernel_rfl
                  case hfz49q11 => kernel_rfl
                  case hrz49q11 => kernel_rfl
                  case hQz49q11 => exact fun _ _ _ h => h
                  case hwz49q11 => rfl
                  case hyz49q11 => (intro wq hSq; (try dsimp only at hSq); go_simp; (try with_reducible rfl))
                  case hSz49q11 => assumption
                  simp only [Act.put, List.setIfInBounds_toArray, List.set_cons_zero, List.set_cons_succ]
                  refine wpAnyH_ready (rs := [12]) (by kernel_rfl) (by simp) ?_
                  refine AllReadyH.cons (o := ?oz50q) ?hz50q (fun K hK => ?rz50q) AllReadyH.nil
                  case hz50q => (simp; rfl)
                  case rz50q =>
                    obtain ⟨pS, cS, rfl, -⟩ := Lk.Sl.own HOWN2.out
                    have hcT := (Lk.belAt HB2.out 0 HTW.out).trans HCW.out
                    have hfz := HRW.out.frz HB2.out 0
                    go_simp
                    clear hcT hfz
                    refine hK.out _ _ (Lk.boxS ((HXW.out.below HB2.out).set HNE.out 0 _)) (fun hHz51q => ?_)
                    clear hK K
                    refine wpAnyH_done (by kernel_rfl) ?_ _
                    go_wp2_with fail
                    go_ret
                    rw [HT.out]
                    exact ⟨rfl, Lk.Ends.store0 hR.out (Lk.belTr HBW.out HB2.out) (by rw [Lk.cellsH_app]; exact HOWN2.out) HBW.out.size (by simp [HNH.out])⟩
          case p =>
            refine wpAnyH_ready (rs := [6]) (by kernel_rfl) (by simp) ?_
            refine AllReadyH.cons (o := ?oz52q) ?hz52q (fun K hK => ?rz52q) AllReadyH.nil
            case hz52q => (simp; rfl)
            case rz52q =>
              refine Lk.step_append rfl _ _ 26 rfl w.heap.size 71 iH (.agg #[.string ⟨#[]⟩, .int .i64 0, .int .i64 0]) 3 32 Tryd.underlying26 HIH.out.1 HIH.out.2.1 HIH.out.2.2.1 HIH.out.2.2.2 rfl (by decide) (.slice (some ⟨w.heap.size + 1, 0, none⟩) 0 0) 0 ([]) rfl (((Lk.Blk.new2 (Lk.belAl (Below.refl _ w) _) _ (g := w.heap.size + 1) (by simp)).drew).own) pa nh ca (Lk.cellsH r.has) rfl (HLQ.out.1) (HLQ.out.2.1) (HLQ.out.2.2.below ((Lk.Blk.new2 (Lk.belAl (Below.refl _ w) _) _ (g := w.heap.size + 1) (by simp)).drew).bel) (Lk.cellsH_one _) (by unfold maxLen; omega) (by omega) ((((Lk.Blk.new2 (Lk.belAl (Below.refl _ w) _) _ (g := w.heap.size + 1) (by simp)).drew).bel).size) ?_
              intro v1 W1 hown1 hgrow1
              rw [List.nil_append, Nat.zero_add] at hown1
              have HB1 := Lk.hid (Lk.belOwn (size := 3) (((Lk.Blk.new2 (Lk.belAl (Below.refl _ w) _) _ (g := w.heap.size + 1) (by simp)).drew).bel) (((Lk.Blk.new2 (Lk.belAl (Below.refl _ w) _) _ (g := w.heap.size + 1) (by simp)).drew).own) (Nat.le_refl _) hgrow1)
              have HOWN1 := Lk.hid hown1
              have HX1 := Lk.hid ((((Lk.Blk.new2 (Below.refl _ w) _ (g := w.heap.size) rfl).alloc _).drew).grown hgrow1 (by simp [Value.ownBlock]) (fun k hk => by cases hk; simp))
              clear hown1 hgrow1
              refine hK.out _ _ (Lk.boxS (HXW.out.below (HB1.out))) (fun hHz53q => ?_)
              clear hK K
              refine wpAnyH_ready (rs := [9]) (by kernel_rfl) (by simp) ?_
              refine AllReadyH.cons (o := ?oz54q) ?hz54q (fun K hK => ?rz54q) AllReadyH.nil
              case hz54q => (simp; rfl)
              case rz54q =>
                refine Lk.step_append rfl _ _ 26 rfl w.heap.size 71 iH (.agg #[.string ⟨#[]⟩, .int .i64 0, .int .i64 0]) 3 32 Tryd.underlying26 HIH.out.1 HIH.out.2.1 HIH.out.2.2.1 HIH.out.2.2.2 rfl (by decide) v1 nh (Lk.cellsH r.has) rfl (HOWN1.out) (some ⟨w.heap.size, 0, none⟩) 1 1 (Lk.cellsH [⟨nm, x, (mk : Int)⟩]) rfl (fun h => nomatch h) (rfl) (HX1.out.lies (cs := Lk.cellsH [⟨nm, x, (mk : Int)⟩])) (Lk.cellsH_one _) (by unfold maxLen; omega) (by omega) ((HB1.out).size) ?_
                intro v2 W2 hown2 hgrow2
                have HB2 := Lk.hid (Lk.belOwn (size := 3) (HB1.out) (HOWN1.out) (Nat.le_refl _) hgrow2)
                have HOWN2 := Lk.hid hown2
                clear hown2 hgrow2
                refine hK.out _ _ (Lk.boxS (HXW.out.below (HB2.out))) (fun hHz55q => ?_)
                clear hK K
                refine wpAnyH_take (i := 10) (oi := ?oz56q10) (v := ?vz56q10) ?hiz56q10 ?hsz56q10 ?hfz56q10 ?hrz56q10 ?hQz56q10 (Or.inl ⟨?hwz56q10, ?hyz56q10⟩) ?hSz56q10 ?restz56q10
                case hiz56q10 => (simp; rfl)
                case hsz56q10 => kernel_rfl
                case hfz56q10 => kernel_rfl
                case hrz56q10 => kernel_rfl
                case hQz56q10 => exact fun _ _ _ h => h
                case hwz56q10 => rfl
                case hyz56q10 => (intro wq hSq; (try dsimp only at hSq); go_simp; (try with_reducible rfl))
                case hSz56q10 => assumption
                simp only [Act.put, List.setIfInBounds_toArray, List.set_cons_zero, List.set_cons_succ]
                refine wpAnyH_take (i := 11) (oi := ?oz57q11) (v := ?vz57q11) ?hiz57q11 ?hsz57q11 ?hfz57q11 ?hrz57q11 ?hQz57q11 (Or.inl ⟨?hwz57q11, ?hyz57q11⟩) ?hSz57q11 ?restz57q11
                case hiz57q11 => (simp; rfl)
                case hsz57q11 => kernel_rfl
                case hfz57q11 => kernel_rfl
                case hrz57q11 => kernel_rfl
                case hQz57q11 => exact fun _ _ _ h => h
                case hwz57q11 => rfl
                case hyz57q11 => (intro wq hSq; (try dsimp only at hSq); go_simp; (try with_reducible rfl))
                case hSz57q11 => assumption
                simp only [Act.put, List.setIfInBounds_toArray, List.set_cons_zero, List.set_cons_succ]
                refine wpAnyH_ready (rs := [12]) (by kernel_rfl) (by simp) ?_
                refine AllReadyH.cons (o := ?oz58q) ?hz58q (fun K hK => ?rz58q) AllReadyH.nil
                case hz58q => (simp; rfl)
                case rz58q =>
                  obtain ⟨pS, cS, rfl, -⟩ := Lk.Sl.own HOWN2.out
                  have hcT := (Lk.belAt HB2.out 0 HTW.out).trans HCW.out
                  have hfz := HRW.out.frz HB2.out 0
                  go_simp
                  clear hcT hfz
                  refine hK.out _ _ (Lk.boxS ((HXW.out.below HB2.out).set HNE.out 0 _)) (fun hHz59q => ?_)
                  clear hK K
                  refine wpAnyH_done (by kernel_rfl) ?_ _
                  go_wp2_with fail
                  go_ret
                  rw [HT.out]
                  exact ⟨rfl, Lk.Ends.store0 hR.out (Lk.belTr HBW.out HB2.out) (by rw [Lk.cellsH_app]; exact HOWN2.out) HBW.out.size (by simp [HNH.out])⟩
        · have HT := Lk.hid (Lk.takeT_waits HOK.out HF.out HS.out hbb)
          have HBB := Lk.hid hbb
          clear hbb
          go_wp2_with (first | (go_at_call 20; refine (refSet_any X _ T r x nm hR (by have := HN.out; omega) hok).mono ?_; rintro e w' ⟨rfl, hq⟩; obtain rfl := hq.symm) | (go_at_call 28; refine (refIn_any _ mk _ (by omega)).mono ?_; rintro e w' ⟨rfl, hq⟩; obtain rfl := hq.symm; rw [HIN.out]))
          have HB1 : Hid (Below W.heap.size W (W.alloc (.cells #[Lk.str nm, .int .i64 x, .int .i64 (mk : Int)] 71))) := Lk.hid (Lk.belAl (Below.refl _ _) _)
          have HX1 : Hid (Lk.Box3 (W.alloc (.cells #[Lk.str nm, .int .i64 x, .int .i64 (mk : Int)] 71)) W.heap.size ⟨nm, x, (mk : Int)⟩) := Lk.hid (Lk.Box3.new W ⟨nm, x, (mk : Int)⟩)
          have HR1 : Hid (Lk.Rm X (W.alloc (.cells #[Lk.str nm, .int .i64 x, .int .i64 (mk : Int)] 71)).drew T r) := Lk.hid (hR.out.below HB1.out.drew)
          have hT := hR.out.lt
          have HS8 : Hid (∀ w', Below (W.alloc (.cells #[Lk.str nm, .int .i64 x, .int .i64 (mk : Int)] 71)).heap.size (W.alloc (.cells #[Lk.str nm, .int .i64 x, .int .i64 (mk : Int)] 71)) w' → w'.cell? ⟨T, 1, none⟩ = some (.slice pb nq cb) ∧ w'.cell? ⟨W.heap.size, 0, none⟩ = some (Lk.str nm) ∧ w'.cell? ⟨W.heap.size, 1, none⟩ = some (.int .i64 x) ∧ w'.cell? ⟨W.heap.size, 2, none⟩ = some (.int .i64 (mk : Int))) := Lk.hid (fun w' hb => ⟨(Lk.belAt (Lk.belTr HB1.out hb) 1 hT).trans hcb, Lk.boxS (HX1.out.below hb)⟩)
          go_region_held3 (fun w' => w'.cell? ⟨T, 1, none⟩ = some (.slice pb nq cb) ∧ w'.cell? ⟨W.heap.size, 0, none⟩ = some (Lk.str nm) ∧ w'.cell? ⟨W.heap.size, 1, none⟩ = some (.int .i64 x) ∧ w'.cell? ⟨W.heap.size, 2, none⟩ = some (.int .i64 (mk : Int))) (first | exact HS8.out _ (Below.refl _ _).drew | exact HS8.out _ HB2.out) ((go_at_call 35; refine (refBarring_any X _ T r ⟨nm, x, (mk : Int)⟩ nq HR1 (by have := HN.out; omega) (Nat.le_of_eq HNQ.out) hok).mono ?_; rintro e w ⟨p2, c2, l2, rfl, s1, s2, s3, s4, s5⟩; obtain ⟨n2, hn2⟩ : ∃ n2, n2 = l2.length := ⟨_, rfl⟩; rw [← hn2]; have HB2 : Hid (Below (W.alloc (.cells #[Lk.str nm, .int .i64 x, .int .i64 (mk : Int)] 71)).heap.size (W.alloc (.cells #[Lk.str nm, .int .i64 x, .int .i64 (mk : Int)] 71)) w) := Lk.hid (Lk.belTr (Below.refl _ _).drew s5); have hlb : decide ((0 : Int) < (l2.length : Int)) = true := (by rw [Lk.bars_nil s3, HNQ.out, List.take_length]; exact HBB.out); rw [← hn2] at hlb; have hlen : (0 : Int) < (n2 : Int) := of_decide_eq_true hlb; clear hlb s1 s2 s3 s4 s5 hn2))
          go_wp2_with fail
          have HBW : Hid (Below W.heap.size W w) := Lk.hid (Lk.belTr HB1.out HB2.out)
          have HXW : Hid (Lk.Box3 w W.heap.size ⟨nm, x, (mk : Int)⟩) := Lk.hid (HX1.out.below HB2.out)
          have HRW := Lk.hid (hR.out.below HBW.out)
          have HTW : Hid (T < w.heap.size) := Lk.hid HRW.out.lt
          have HNE : Hid (W.heap.size ≠ T) := Lk.hid (by omega)
          have HCW : Hid (w.cell? ⟨T, 1, none⟩ = some (.slice pb nq cb)) := Lk.hid ((Lk.belAt HBW.out 1 hT).trans hcb)
          have HLQ : Hid ((pb = none → nq = 0 ∧ cb = 0) ∧ (Lk.cellsH r.qu).length = nq * 3 ∧ Lk.Lies w pb (Lk.cellsH r.qu)) := Lk.hid ⟨HQB.out.1, by rw [Lk.cellsH_length, HNQ.out], HQB.out.2.below HBW.out⟩
          have hnq2 : nq ≤ 900 := by rw [HNQ.out]; exact HN.out.2
          clear HS8 hlen hT HR1 HX1 HB1 HB2
          refine wp_region_held_drew (S := (fun w' => w'.cell? ⟨W.heap.size, 0, none⟩ = some (Lk.str nm) ∧ w'.cell? ⟨W.heap.size, 1, none⟩ = some (.int .i64 x) ∧ w'.cell? ⟨W.heap.size, 2, none⟩ = some (.int .i64 (mk : Int)))) (by kernel_rfl) (Lk.boxS (HXW.out.below (Below.refl _ _).drew)) (fun hH => ?_)
          refine wpAnyH_take (i := 0) (oi := ?oy1q0) (v := ?vy1q0) ?hiy1q0 ?hsy1q0 ?hfy1q0 ?hry1q0 ?hQy1q0 (Or.inl ⟨?hwy1q0, ?hyy1q0⟩) ?hSy1q0 ?resty1q0
          case hiy1q0 => (simp; rfl)
          case hsy1q0 => kernel_rfl
          case hfy1q0 => kernel_rfl
          case hry1q0 => kernel_rfl
          case hQy1q0 => exact fun _ _ _ h => h
          case hwy1q0 => rfl
          case hyy1q0 => (intro wq hSq; (try dsimp only at hSq); go_simp; (try with_reducible rfl))
          case hSy1q0 => assumption
          simp only [Act.put, List.setIfInBounds_toArray, List.set_cons_zero, List.set_cons_succ]
          refine wpAnyH_take (i := 2) (oi := ?oy2q2) (v := ?vy2q2) ?hiy2q2 ?hsy2q2 ?hfy2q2 ?hry2q2 ?hQy2q2 (Or.inl ⟨?hwy2q2, ?hyy2q2⟩) ?hSy2q2 ?resty2q2
          case hiy2q2 => (simp; rfl)
          case hsy2q2 => kernel_rfl
          case hfy2q2 => kernel_rfl
          case hry2q2 => kernel_rfl
          case hQy2q2 => exact fun _ _ _ h => h
          case hwy2q2 => rfl
          case hyy2q2 => (intro wq hSq; (try dsimp only at hSq); go_simp; (try with_reducible rfl))
          case hSy2q2 => assumption
          simp only [Act.put, List.setIfInBounds_toArray, List.set_cons_zero, List.set_cons_succ]
          refine wpAnyH_take (i := 3) (oi := ?oy3q3) (v := ?vy3q3) ?hiy3q3 ?hsy3q3 ?hfy3q3 ?hry3q3 ?hQy3q3 (Or.inl ⟨?hwy3q3, ?hyy3q3⟩) ?hSy3q3 ?resty3q3
          case hiy3q3 => (simp; rfl)
          case hsy3q3 => kernel_rfl
          case hfy3q3 => kernel_rfl
          case hry3q3 => kernel_rfl
          case hQy3q3 => exact fun _ _ _ h => h
          case hwy3q3 => rfl
          case hyy3q3 => (intro wq hSq; (try dsimp only at hSq); go_simp; (try with_reducible rfl))
          case hSy3q3 => assumption
          simp only [Act.put, List.setIfInBounds_toArray, List.set_cons_zero, List.set_cons_succ]
          refine wpAnyH_take (i := 4) (oi := ?oy4q4) (v := ?vy4q4) ?hiy4q4 ?hsy4q4 ?hfy4q4 ?hry4q4 ?hQy4q4 (Or.inl ⟨?hwy4q4, ?hyy4q4⟩) ?hSy4q4 ?resty4q4
          case hiy4q4 => (simp; rfl)
          case hsy4q4 => kernel_rfl
          case hfy4q4 => kernel_rfl
          case hry4q4 => kernel_rfl
          case hQy4q4 => exact fun _ _ _ h => h
          case hwy4q4 => rfl
          case hyy4q4 => (intro wq hSq; (try dsimp only at hSq); go_simp; (try with_reducible rfl))
          case hSy4q4 => assumption
          simp only [Act.put, List.setIfInBounds_toArray, List.set_cons_zero, List.set_cons_succ]
          refine wpAnyH_take (i := 7) (oi := ?oy5q7) (v := ?vy5q7) ?hiy5q7 ?hsy5q7 ?hfy5q7 ?hry5q7 ?hQy5q7 (Or.inl ⟨?hwy5q7, ?hyy5q7⟩) ?hSy5q7 ?resty5q7
          case hiy5q7 => (simp; rfl)
          case hsy5q7 => kernel_rfl
          case hfy5q7 => kernel_rfl
          case hry5q7 => kernel_rfl
          case hQy5q7 => exact fun _ _ _ h => h
          case hwy5q7 => rfl
          case hyy5q7 => (intro wq hSq; (try dsimp only at hSq); go_simp; (try with_reducible rfl))
          case hSy5q7 => assumption
          simp only [Act.put, List.setIfInBounds_toArray, List.set_cons_zero, List.set_cons_succ]
          apply Lk.mergeH
          case m =>
            intro ykC
            apply Lk.mergeH
            case m =>
              intro ykB
              apply Lk.mergeH
              case m =>
                intro ykA
                refine wpAnyH_ready (rs := [1, 5, 8]) (by kernel_rfl) (by simp) ?_
                refine AllReadyH.cons (o := ?oy6q) ?hy6q (fun K hK => ?ry6q) (AllReadyH.cons (o := ?oy7q) ?hy7q (fun K hK => ?ry7q) (AllReadyH.cons (o := ?oy8q) ?hy8q (fun K hK => ?ry8q) AllReadyH.nil))
                case hy6q => (simp; rfl)
                case hy7q => (simp; rfl)
                case hy8q => (simp; rfl)
                case ry6q =>
                  go_simp
                  refine hK.out _ _ (Lk.boxS (HXW.out.below ((Lk.Blk.new2 (Below.refl _ w) _ (g := w.heap.size) rfl).drew.bel))) (fun hHy9q => ?_)
                  clear hK K
                  refine wpAnyH_ready (rs := [5, 8]) (by kernel_rfl) (by simp) ?_
                  refine AllReadyH.cons (o := ?oy10q) ?hy10q (fun K hK => ?ry10q) (AllReadyH.cons (o := ?oy11q) ?hy11q (fun K hK => ?ry11q) AllReadyH.nil)
                  case hy10q => (simp; rfl)
                  case hy11q => (simp; rfl)
                  case ry10q =>
                    have hc5 := (Lk.belAt ((Lk.belAl (Below.refl _ w) (.cells #[] 71)).drew) 1 HTW.out).trans HCW.out
                    go_simp
                    clear hc5
                    refine hK.out _ _ (Lk.boxS (HXW.out.below ((Lk.Blk.new2 (Below.refl _ w) _ (g := w.heap.size) rfl).drew.bel))) (fun hHy12q => ?_)
                    clear hK K
                    exact ykA
                  case ry11q =>
                    go_simp
                    refine hK.out _ _ (Lk.boxS (HXW.out.below ((Lk.Blk.new2 (Lk.belAl (Below.refl _ w) _) _ (g := w.heap.size + 1) (by simp)).drew.bel))) (fun hHy13q => ?_)
                    clear hK K
                    refine wpAnyH_ready (rs := [5]) (by kernel_rfl) (by simp) ?_
                    refine AllReadyH.cons (o := ?oy14q) ?hy14q (fun K hK => ?ry14q) AllReadyH.nil
                    case hy14q => (simp; rfl)
                    case ry14q =>
                      have hc5 := (Lk.belAt ((Lk.belAl (Lk.belAl (Below.refl _ w) (.cells #[] 71)) (.cells #[Lk.str nm, .int .i64 x, .int .i64 (mk : Int)] 71)).drew) 1 HTW.out).trans HCW.out
                      go_simp
                      clear hc5
                      refine hK.out _ _ (Lk.boxS (HXW.out.below ((Lk.Blk.new2 (Lk.belAl (Below.refl _ w) _) _ (g := w.heap.size + 1) (by simp)).drew.bel))) (fun hHy15q => ?_)
                      clear hK K
                      exact ykB
                case ry7q =>
                  have hc5 := (Lk.belAt ((Below.refl _ w).drew) 1 HTW.out).trans HCW.out
                  go_simp
                  clear hc5
                  refine hK.out _ _ (Lk.boxS (HXW.out.below ((Below.refl _ _).drew))) (fun hHy16q => ?_)
                  clear hK K
                  refine wpAnyH_ready (rs := [1, 8]) (by kernel_rfl) (by simp) ?_
                  refine AllReadyH.cons (o := ?oy17q) ?hy17q (fun K hK => ?ry17q) (AllReadyH.cons (o := ?oy18q) ?hy18q (fun K hK => ?ry18q) AllReadyH.nil)
                  case hy17q => (simp; rfl)
                  case hy18q => (simp; rfl)
                  case ry17q =>
                    go_simp
                    refine hK.out _ _ (Lk.boxS (HXW.out.below ((Lk.Blk.new2 (Below.refl _ w) _ (g := w.heap.size) rfl).drew.bel))) (fun hHy19q => ?_)
                    clear hK K
                    exact Lk.wpAnyH_eq (by kernel_rfl) ykA
                  case ry18q =>
                    go_simp
                    refine hK.out _ _ (Lk.boxS (HXW.out.below ((Lk.Blk.new2 (Below.refl _ w) _ (g := w.heap.size) rfl).drew.bel))) (fun hHy20q => ?_)
                    clear hK K
                    refine wpAnyH_ready (rs := [1]) (by kernel_rfl) (by simp) ?_
                    refine AllReadyH.cons (o := ?oy21q) ?hy21q (fun K hK => ?ry21q) AllReadyH.nil
                    case hy21q => (simp; rfl)
                    case ry21q =>
                      go_simp
                      refine hK.out _ _ (Lk.boxS (HXW.out.below ((Lk.Blk.new2 (Lk.belAl (Below.refl _ w) _) _ (g := w.heap.size + 1) (by simp)).drew.bel))) (fun hHy22q => ?_)
                      clear hK K
                      exact ykC
                case ry8q =>
                  go_simp
                  refine hK.out _ _ (Lk.boxS (HXW.out.below ((Lk.Blk.new2 (Below.refl _ w) _ (g := w.heap.size) rfl).drew.bel))) (fun hHy23q => ?_)
                  clear hK K
                  refine wpAnyH_ready (rs := [1, 5]) (by kernel_rfl) (by simp) ?_
                  refine AllReadyH.cons (o := ?oy24q) ?hy24q (fun K hK => ?ry24q) (AllReadyH.cons (o := ?oy25q) ?hy25q (fun K hK => ?ry25q) AllReadyH.nil)
                  case hy24q => (simp; rfl)
                  case hy25q => (simp; rfl)
                  case ry24q =>
                    go_simp
                    refine hK.out _ _ (Lk.boxS (HXW.out.below ((Lk.Blk.new2 (Lk.belAl (Below.refl _ w) _) _ (g := w.heap.size + 1) (by simp)).drew.bel))) (fun hHy26q => ?_)
                    clear hK K
                    refine wpAnyH_ready (rs := [5]) (by kernel_rfl) (by simp) ?_
                    refine AllReadyH.cons (o := ?oy27q) ?hy27q (fun K hK => ?ry27q) AllReadyH.nil
                    case hy27q => (simp; rfl)
                    case ry27q =>
                      have hc5 := (Lk.belAt ((Lk.belAl (Lk.belAl (Below.refl _ w) (.cells #[Lk.str nm, .int .i64 x, .int .i64 (mk : Int)] 71)) (.cells #[] 71)).drew) 1 HTW.out).trans HCW.out
                      go_simp
                      clear hc5
                      refine hK.out _ _ (Lk.boxS (HXW.out.below ((Lk.Blk.new2 (Lk.belAl (Below.refl _ w) _) _ (g := w.heap.size + 1) (by simp)).drew.bel))) (fun hHy28q => ?_)
                      clear hK K
                      exact Lk.wpAnyH_eq (by kernel_rfl) ykC
                  case ry25q =>
                    have hc5 := (Lk.belAt ((Lk.belAl (Below.refl _ w) (.cells #[Lk.str nm, .int .i64 x, .int .i64 (mk : Int)] 71)).drew) 1 HTW.out).trans HCW.out
                    go_simp
                    clear hc5
                    refine hK.out _ _ (Lk.boxS (HXW.out.below ((Lk.Blk.new2 (Below.refl _ w) _ (g := w.heap.size) rfl).drew.bel))) (fun hHy29q => ?_)
                    clear hK K
                    refine wpAnyH_ready (rs := [1]) (by kernel_rfl) (by simp) ?_
                    refine AllReadyH.cons (o := ?oy30q) ?hy30q (fun K hK => ?ry30q) AllReadyH.nil
                    case hy30q => (simp; rfl)
                    case ry30q =>
                      go_simp
                      refine hK.out _ _ (Lk.boxS (HXW.out.below ((Lk.Blk.new2 (Lk.belAl (Below.refl _ w) _) _ (g := w.heap.size + 1) (by simp)).drew.bel))) (fun hHy31q => ?_)
                      clear hK K
                      exact Lk.wpAnyH_eq (by kernel_rfl) ykC
              case p =>
                refine wpAnyH_ready (rs := [6, 8]) (by kernel_rfl) (by simp) ?_
                refine AllReadyH.cons (o := ?oy32q) ?hy32q (fun K hK => ?ry32q) (AllReadyH.cons (o := ?oy33q) ?hy33q (fun K hK => ?ry33q) AllReadyH.nil)
                case hy32q => (simp; rfl)
                case hy33q => (simp; rfl)
                case ry32q =>
                  refine Lk.step_append rfl _ _ 26 rfl w.heap.size 71 iH (.agg #[.string ⟨#[]⟩, .int .i64 0, .int .i64 0]) 3 32 Tryd.underlying26 HIH.out.1 HIH.out.2.1 HIH.out.2.2.1 HIH.out.2.2.2 rfl (by decide) (.slice (some ⟨w.heap.size, 0, none⟩) 0 0) 0 ([]) rfl (((Lk.Blk.new2 (Below.refl _ w) _ (g := w.heap.size) rfl).drew).own) pb nq cb (Lk.cellsH r.qu) rfl (HLQ.out.1) (HLQ.out.2.1) (HLQ.out.2.2.below ((Lk.Blk.new2 (Below.refl _ w) _ (g := w.heap.size) rfl).drew).bel) (Lk.cellsH_one _) (by unfold maxLen; omega) (by omega) ((((Lk.Blk.new2 (Below.refl _ w) _ (g := w.heap.size) rfl).drew).bel).size) ?_
                  intro v1 W1 hown1 hgrow1
                  rw [List.nil_append, Nat.zero_add] at hown1
                  have HB1 := Lk.hid (Lk.belOwn (size := 3) (((Lk.Blk.new2 (Below.refl _ w) _ (g := w.heap.size) rfl).drew).bel) (((Lk.Blk.new2 (Below.refl _ w) _ (g := w.heap.size) rfl).drew).own) (Nat.le_refl _) hgrow1)
                  have HOWN1 := Lk.hid hown1
                  clear hown1 hgrow1
                  refine hK.out _ _ (Lk.boxS (HXW.out.below (HB1.out))) (fun hHy34q => ?_)
                  clear hK K
                  refine wpAnyH_ready (rs := [8]) (by kernel_rfl) (by simp) ?_
                  refine AllReadyH.cons (o := ?oy35q) ?hy35q (fun K hK => ?ry35q) AllReadyH.nil
                  case hy35q => (simp; rfl)
                  case ry35q =>
                    go_simp
                    refine hK.out _ _ (Lk.boxS (HXW.out.below (Lk.belAl HB1.out _))) (fun hHy36q => ?_)
                    clear hK K
                    refine wpAnyH_ready (rs := [9]) (by kernel_rfl) (by simp) ?_
                    refine AllReadyH.cons (o := ?oy37q) ?hy37q (fun K hK => ?ry37q) AllReadyH.nil
                    case hy37q => (simp; rfl)
                    case ry37q =>
                      refine Lk.step_append rfl _ _ 26 rfl w.heap.size 71 iH (.agg #[.string ⟨#[]⟩, .int .i64 0, .int .i64 0]) 3 32 Tryd.underlying26 HIH.out.1 HIH.out.2.1 HIH.out.2.2.1 HIH.out.2.2.2 rfl (by decide) v1 nq (Lk.cellsH r.qu) rfl (HOWN1.out.alloc _) (some ⟨W1.heap.size, 0, none⟩) 1 1 (Lk.cellsH [⟨nm, x, (mk : Int)⟩]) rfl (fun h => nomatch h) (rfl) ((Lk.Blk.new HB1.out _).lies (cs := Lk.cellsH [⟨nm, x, (mk : Int)⟩])) (Lk.cellsH_one _) (by unfold maxLen; omega) (by omega) ((Lk.belAl HB1.out _).size) ?_
                      intro v2 W2 hown2 hgrow2
                      have HB2 := Lk.hid (Lk.belOwn (size := 3) (Lk.belAl HB1.out _) (HOWN1.out.alloc _) (Nat.le_refl _) hgrow2)
                      have HOWN2 := Lk.hid hown2
                      clear hown2 hgrow2
                      refine hK.out _ _ (Lk.boxS (HXW.out.below (HB2.out))) (fun hHy38q => ?_)
                      clear hK K
                      refine wpAnyH_take (i := 10) (oi := ?oy39q10) (v := ?vy39q10) ?hiy39q10 ?hsy39q10 ?hfy39q10 ?hry39q10 ?hQy39q10 (Or.inl ⟨?hwy39q10, ?hyy39q10⟩) ?hSy39q10 ?resty39q10
                      case hiy39q10 => (simp; rfl)
                      case hsy39q10 => kernel_rfl
                      case hfy39q10 => kernel_rfl
                      case hry39q10 => kernel_rfl
                      case hQy39q10 => exact fun _ _ _ h => h
                      case hwy39q10 => rfl
                      case hyy39q10 => (intro wq hSq; (try dsimp only at hSq); go_simp; (try with_reducible rfl))
                      case hSy39q10 => assumption
                      simp only [Act.put, List.setIfInBounds_toArray, List.set_cons_zero, List.set_cons_succ]
                      refine wpAnyH_take (i := 11) (oi := ?oy40q11) (v := ?vy40q11) ?hiy40q11 ?hsy40q11 ?hfy40q11 ?hry40q11 ?hQy40q11 (Or.inl ⟨?hwy40q11, ?hyy40q11⟩) ?hSy40q11 ?resty40q11
                      case hiy40q11 => (simp; rfl)
                      case hsy40q11 => kernel_rfl
                      case hfy40q11 => kernel_rfl
                      case hry40q11 => kernel_rfl
                      case hQy40q11 => exact fun _ _ _ h => h
                      case hwy40q11 => rfl
                      case hyy40q11 => (intro wq hSq; (try dsimp only at hSq); go_simp; (try with_reducible rfl))
                      case hSy40q11 => assumption
                      simp only [Act.put, List.setIfInBounds_toArray, List.set_cons_zero, List.set_cons_succ]
                      refine wpAnyH_ready (rs := [12]) (by kernel_rfl) (by simp) ?_
                      refine AllReadyH.cons (o := ?oy41q) ?hy41q (fun K hK => ?ry41q) AllReadyH.nil
                      case hy41q => (simp; rfl)
                      case ry41q =>
                        obtain ⟨pS, cS, rfl, -⟩ := Lk.Sl.own HOWN2.out
                        have hcT := (Lk.belAt HB2.out 1 HTW.out).trans HCW.out
                        have hfz := HRW.out.frz HB2.out 1
                        go_simp
                        clear hcT hfz
                        refine hK.out _ _ (Lk.boxS ((HXW.out.below HB2.out).set HNE.out 1 _)) (fun hHy42q => ?_)
                        clear hK K
                        refine wpAnyH_done (by kernel_rfl) ?_ _
                        go_wp2_with fail
                        go_ret
                        rw [HT.out]
                        exact ⟨rfl, Lk.Ends.store1 hR.out (Lk.belTr HBW.out HB2.out) (by rw [Lk.cellsH_app]; exact HOWN2.out) HBW.out.size (by simp [HNQ.out])⟩
                case ry33q =>
                  go_simp
                  refine hK.out _ _ (Lk.boxS (HXW.out.below ((Lk.Blk.new2 (Lk.belAl (Below.refl _ w) _) _ (g := w.heap.size + 1) (by simp)).drew.bel))) (fun hHy43q => ?_)
                  clear hK K
                  exact Lk.wpAnyH_eq (by kernel_rfl) ykB
            case p =>
              refine wpAnyH_ready (rs := [6]) (by kernel_rfl) (by simp) ?_
              refine AllReadyH.cons (o := ?oy44q) ?hy44q (fun K hK => ?ry44q) AllReadyH.nil
              case hy44q => (simp; rfl)
              case ry44q =>
                refine Lk.step_append rfl _ _ 26 rfl w.heap.size 71 iH (.agg #[.string ⟨#[]⟩, .int .i64 0, .int .i64 0]) 3 32 Tryd.underlying26 HIH.out.1 HIH.out.2.1 HIH.out.2.2.1 HIH.out.2.2.2 rfl (by decide) (.slice (some ⟨w.heap.size, 0, none⟩) 0 0) 0 ([]) rfl ((((Lk.Blk.new2 (Below.refl _ w) _ (g := w.heap.size) rfl).alloc _).drew).own) pb nq cb (Lk.cellsH r.qu) rfl (HLQ.out.1) (HLQ.out.2.1) (HLQ.out.2.2.below (((Lk.Blk.new2 (Below.refl _ w) _ (g := w.heap.size) rfl).alloc _).drew).bel) (Lk.cellsH_one _) (by unfold maxLen; omega) (by omega) (((((Lk.Blk.new2 (Below.refl _ w) _ (g := w.heap.size) rfl).alloc _).drew).bel).size) ?_
                intro v1 W1 hown1 hgrow1
                rw [List.nil_append, Nat.zero_add] at hown1
                have HB1 := Lk.hid (Lk.belOwn (size := 3) ((((Lk.Blk.new2 (Below.refl _ w) _ (g := w.heap.size) rfl).alloc _).drew).bel) ((((Lk.Blk.new2 (Below.refl _ w) _ (g := w.heap.size) rfl).alloc _).drew).own) (Nat.le_refl _) hgrow1)
                have HOWN1 := Lk.hid hown1
                have HX1 := Lk.hid (((Lk.Blk.new2 (Lk.belAl (Below.refl _ w) _) _ (g := w.heap.size + 1) (by simp)).drew).grown hgrow1 (by simp [Value.ownBlock]) (fun k hk => by cases hk; exact Nat.le_refl _))
                clear hown1 hgrow1
                refine hK.out _ _ (Lk.boxS (HXW.out.below (HB1.out))) (fun hHy45q => ?_)
                clear hK K
                refine wpAnyH_ready (rs := [9]) (by kernel_rfl) (by simp) ?_
                refine AllReadyH.cons (o := ?oy46q) ?hy46q (fun K hK => ?ry46q) AllReadyH.nil
                case hy46q => (simp; rfl)
                case ry46q =>
                  refine Lk.step_append rfl _ _ 26 rfl w.heap.size 71 iH (.agg #[.string ⟨#[]⟩, .int .i64 0, .int .i64 0]) 3 32 Tryd.underlying26 HIH.out.1 HIH.out.2.1 HIH.out.2.2.1 HIH.out.2.2.2 rfl (by decide) v1 nq (Lk.cellsH r.qu) rfl (HOWN1.out) (some ⟨w.heap.size + 1, 0, none⟩) 1 1 (Lk.cellsH [⟨nm, x, (mk : Int)⟩]) rfl (fun h => nomatch h) (rfl) (HX1.out.lies (cs := Lk.cellsH [⟨nm, x, (mk : Int)⟩])) (Lk.cellsH_one _) (by unfold maxLen; omega) (by omega) ((HB1.out).size) ?_
                  intro v2 W2 hown2 hgrow2
                  have HB2 := Lk.hid (Lk.belOwn (size := 3) (HB1.out) (HOWN1.out) (Nat.le_refl _) hgrow2)
                  have HOWN2 := Lk.hid hown2
                  clear hown2 hgrow2
                  refine hK.out _ _ (Lk.boxS (HXW.out.below (HB2.out))) (fun hHy47q => ?_)
                  clear hK K
                  refine wpAnyH_take (i := 10) (oi := ?oy48q10) (v := ?vy48q10) ?hiy48q10 ?hsy48q10 ?hfy48q10 ?hry48q10 ?hQy48q10 (Or.inl ⟨?hwy48q10, ?hyy48q10⟩) ?hSy48q10 ?resty48q10
                  case hiy48q10 => (simp; rfl)
                  case hsy48q10 => kernel_rfl
                  case hfy48q10 => kernel_rfl
                  case hry48q10 => kernel_rfl
                  case hQy48q10 => exact fun _ _ _ h => h
                  case hwy48q10 => rfl
                  case hyy48q10 => (intro wq hSq; (try dsimp only at hSq); go_simp; (try with_reducible rfl))
                  case hSy48q10 => assumption
                  simp only [Act.put, List.setIfInBounds_toArray, List.set_cons_zero, List.set_cons_succ]
                  refine wpAnyH_take (i := 11) (oi := ?oy49q11) (v := ?vy49q11) ?hiy49q11 ?hsy49q11 ?hfy49q11 ?hry49q11 ?hQy49q11 (Or.inl ⟨?hwy49q11, ?hyy49q11⟩) ?hSy49q11 ?resty49q11
                  case hiy49q11 => (simp; rfl)
                  case hsy49q11 => kernel_rfl
                  case hfy49q11 => kernel_rfl
                  case hry49q11 => kernel_rfl
                  case hQy49q11 => exact fun _ _ _ h => h
                  case hwy49q11 => rfl
                  case hyy49q11 => (intro wq hSq; (try dsimp only at hSq); go_simp; (try with_reducible rfl))
                  case hSy49q11 => assumption
                  simp only [Act.put, List.setIfInBounds_toArray, List.set_cons_zero, List.set_cons_succ]
                  refine wpAnyH_ready (rs := [12]) (by kernel_rfl) (by simp) ?_
                  refine AllReadyH.cons (o := ?oy50q) ?hy50q (fun K hK => ?ry50q) AllReadyH.nil
                  case hy50q => (simp; rfl)
                  case ry50q =>
                    obtain ⟨pS, cS, rfl, -⟩ := Lk.Sl.own HOWN2.out
                    have hcT := (Lk.belAt HB2.out 1 HTW.out).trans HCW.out
                    have hfz := HRW.out.frz HB2.out 1
                    go_simp
                    clear hcT hfz
                    refine hK.out _ _ (Lk.boxS ((HXW.out.below HB2.out).set HNE.out 1 _)) (fun hHy51q => ?_)
                    clear hK K
                    refine wpAnyH_done (by kernel_rfl) ?_ _
                    go_wp2_with fail
                    go_ret
                    rw [HT.out]
                    exact ⟨rfl, Lk.Ends.store1 hR.out (Lk.belTr HBW.out HB2.out) (by rw [Lk.cellsH_app]; exact HOWN2.out) HBW.out.size (by simp [HNQ.out])⟩
          case p =>
            refine wpAnyH_ready (rs := [6]) (by kernel_rfl) (by simp) ?_
            refine AllReadyH.cons (o := ?oy52q) ?hy52q (fun K hK => ?ry52q) AllReadyH.nil
            case hy52q => (simp; rfl)
            case ry52q =>
              refine Lk.step_append rfl _ _ 26 rfl w.heap.size 71 iH (.agg #[.string ⟨#[]⟩, .int .i64 0, .int .i64 0]) 3 32 Tryd.underlying26 HIH.out.1 HIH.out.2.1 HIH.out.2.2.1 HIH.out.2.2.2 rfl (by decide) (.slice (some ⟨w.heap.size + 1, 0, none⟩) 0 0) 0 ([]) rfl (((Lk.Blk.new2 (Lk.belAl (Below.refl _ w) _) _ (g := w.heap.size + 1) (by simp)).drew).own) pb nq cb (Lk.cellsH r.qu) rfl (HLQ.out.1) (HLQ.out.2.1) (HLQ.out.2.2.below ((Lk.Blk.new2 (Lk.belAl (Below.refl _ w) _) _ (g := w.heap.size + 1) (by simp)).drew).bel) (Lk.cellsH_one _) (by unfold maxLen; omega) (by omega) ((((Lk.Blk.new2 (Lk.belAl (Below.refl _ w) _) _ (g := w.heap.size + 1) (by simp)).drew).bel).size) ?_
              intro v1 W1 hown1 hgrow1
              rw [List.nil_append, Nat.zero_add] at hown1
              have HB1 := Lk.hid (Lk.belOwn (size := 3) (((Lk.Blk.new2 (Lk.belAl (Below.refl _ w) _) _ (g := w.heap.size + 1) (by simp)).drew).bel) (((Lk.Blk.new2 (Lk.belAl (Below.refl _ w) _) _ (g := w.heap.size + 1) (by simp)).drew).own) (Nat.le_refl _) hgrow1)
              have HOWN1 := Lk.hid hown1
              have HX1 := Lk.hid ((((Lk.Blk.new2 (Below.refl _ w) _ (g := w.heap.size) rfl).alloc _).drew).grown hgrow1 (by simp [Value.ownBlock]) (fun k hk => by cases hk; simp))
              clear hown1 hgrow1
              refine hK.out _ _ (Lk.boxS (HXW.out.below (HB1.out))) (fun hHy53q => ?_)
              clear hK K
              refine wpAnyH_ready (rs := [9]) (by kernel_rfl) (by simp) ?_
              refine AllReadyH.cons (o := ?oy54q) ?hy54q (fun K hK => ?ry54q) AllReadyH.nil
              case hy54q => (simp; rfl)
              case ry54q =>
                refine Lk.step_append rfl _ _ 26 rfl w.heap.size 71 iH (.agg #[.string ⟨#[]⟩, .int .i64 0, .int .i64 0]) 3 32 Tryd.underlying26 HIH.out.1 HIH.out.2.1 HIH.out.2.2.1 HIH.out.2.2.2 rfl (by decide) v1 nq (Lk.cellsH r.qu) rfl (HOWN1.out) (some ⟨w.heap.size, 0, none⟩) 1 1 (Lk.cellsH [⟨nm, x, (mk : Int)⟩]) rfl (fun h => nomatch h) (rfl) (HX1.out.lies (cs := Lk.cellsH [⟨nm, x, (mk : Int)⟩])) (Lk.cellsH_one _) (by unfold maxLen; omega) (by omega) ((HB1.out).size) ?_
                intro v2 W2 hown2 hgrow2
                have HB2 := Lk.hid (Lk.belOwn (size := 3) (HB1.out) (HOWN1.out) (Nat.le_refl _) hgrow2)
                have HOWN2 := Lk.hid hown2
                clear hown2 hgrow2
                refine hK.out _ _ (Lk.boxS (HXW.out.below (HB2.out))) (fun hHy55q => ?_)
                clear hK K
                refine wpAnyH_take (i := 10) (oi := ?oy56q10) (v := ?vy56q10) ?hiy56q10 ?hsy56q10 ?hfy56q10 ?hry56q10 ?hQy56q10 (Or.inl ⟨?hwy56q10, ?hyy56q10⟩) ?hSy56q10 ?resty56q10
                case hiy56q10 => (simp; rfl)
                case hsy56q10 => kernel_rfl
                case hfy56q10 => kernel_rfl
                case hry56q10 => kernel_rfl
                case hQy56q10 => exact fun _ _ _ h => h
                case hwy56q10 => rfl
                case hyy56q10 => (intro wq hSq; (try dsimp only at hSq); go_simp; (try with_reducible rfl))
                case hSy56q10 => assumption
                simp only [Act.put, List.setIfInBounds_toArray, List.set_cons_zero, List.set_cons_succ]
                refine wpAnyH_take (i := 11) (oi := ?oy57q11) (v := ?vy57q11) ?hiy57q11 ?hsy57q11 ?hfy57q11 ?hry57q11 ?hQy57q11 (Or.inl ⟨?hwy57q11, ?hyy57q11⟩) ?hSy57q11 ?resty57q11
                case hiy57q11 => (simp; rfl)
                case hsy57q11 => kernel_rfl
                case hfy57q11 => kernel_rfl
                case hry57q11 => kernel_rfl
                case hQy57q11 => exact fun _ _ _ h => h
                case hwy57q11 => rfl
                case hyy57q11 => (intro wq hSq; (try dsimp only at hSq); go_simp; (try with_reducible rfl))
                case hSy57q11 => assumption
                simp only [Act.put, List.setIfInBounds_toArray, List.set_cons_zero, List.set_cons_succ]
                refine wpAnyH_ready (rs := [12]) (by kernel_rfl) (by simp) ?_
                refine AllReadyH.cons (o := ?oy58q) ?hy58q (fun K hK => ?ry58q) AllReadyH.nil
                case hy58q => (simp; rfl)
                case ry58q =>
                  obtain ⟨pS, cS, rfl, -⟩ := Lk.Sl.own HOWN2.out
                  have hcT := (Lk.belAt HB2.out 1 HTW.out).trans HCW.out
                  have hfz := HRW.out.frz HB2.out 1
                  go_simp
                  clear hcT hfz
                  refine hK.out _ _ (Lk.boxS ((HXW.out.below HB2.out).set HNE.out 1 _)) (fun hHy59q => ?_)
                  clear hK K
                  refine wpAnyH_done (by kernel_rfl) ?_ _
                  go_wp2_with fail
                  go_ret
                  rw [HT.out]
                  exact ⟨rfl, Lk.Ends.store1 hR.out (Lk.belTr HBW.out HB2.out) (by rw [Lk.cellsH_app]; exact HOWN2.out) HBW.out.size (by simp [HNQ.out])⟩
    · have HT := Lk.hid (Lk.takeT_state HOK.out hf2)
      clear hf hf2 hy hyx
      go_wp2_with fail
      go_ret
      rw [HT.out]
      exact ⟨rfl, Lk.Ends.same hR.out (Below.refl _ _)⟩

end Go.Proofs.YthaenobciefjiaaDoor
