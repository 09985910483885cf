/- The reference's Remove. -/
import Derived.Test.YtjnaafgiokdcbaaGreatDoorGN
import Derived.Deep.CutRange
set_option maxRecDepth 100000
namespace Go.Proofs.YtjnaafgiokdcbaaGreatDoor
open Go.RowKit

set_option maxRecDepth 100000 in
set_option maxHeartbeats 8000000 in
theorem refRem_stay {w : World} {base p r c : Nat} {kf : Nat → Value} {s : Lf.S} (H : Hid (Lf.Rm w base p r c kf s)) (hI : Hid (Lf.Inv s)) (hbase : Hid (base ≤ w.heap.size)) (hn : s.pgs.length ≤ 100000) {k : ByteArray} {L R : List Lf.Pg} {P : Lf.Pg} (hs : Hid (Lf.Spl s k L P R)) {A B : List ByteArray} (hk : Hid (Lf.Kp P.ks k A (k :: B))) (hf : Hid (A ++ B ≠ [] ∨ L ++ R = [])) :
    Calls Tryz.prog 37 #[.pointer (some ⟨p, 0, none⟩), .string k] w fun e w' => ∃ s' l f t, e = .returned (.agg #[.int .i64 ((l : Nat) : Int), .int .i64 ((f : Nat) : Int), .int .i64 ((t : Nat) : Int), .int .i64 0]) ∧ Lf.RemR s k s' l f t 0 ∧ Lf.Out w base p r kf s w' s' := by
  have hkl : P.ks.length ≤ 64 := by have := (hI.out.ks P hs.out.mem).2.2; have := hI.out.f2; omega
  obtain ⟨w1, hw1⟩ : ∃ w1, w.alloc (.cells #[.int .i64 0, .int .i64 0, .int .i64 0, .int .i64 0] 42) = w1 := ⟨_, rfl⟩
  have HB1 : Hid (Below w.heap.size w w1) := Mm.hid (by rw [← hw1]; exact (Below.refl _ _).alloc (Nat.le_refl _) _)
  have HX1 : Hid (w1.heap[w.heap.size]? = some (.cells #[.int .i64 0, .int .i64 0, .int .i64 0, .int .i64 0] 42 (0, 0))) := Mm.hid (by rw [← hw1]; exact Mm.newAt _ _ rfl)
  have hno : Lf.inKs P.ks k = true := Lf.inKs_iff.2 ((hk.out.mem (hI.out.ks P hs.out.mem).1).2 rfl)
  have hhas := refHas_any (Mm.hid (H.out.below HB1.out).rd) hs hn (by omega)
  rw [hno] at hhas
  have HHAS := Mm.hid hhas
  clear hhas hno
  go_enter Tryz.func37, Tryz.ntmps37
  go_wp2_with fail
  refine HHAS.out.mono ?_
  rintro e w2 ⟨rfl, hb2⟩
  clear HHAS
  have HB2 : Hid (Below w.heap.size w w2) := Mm.hid (HB1.out.trans (hb2.mono HB1.out.size))
  have HX2 : Hid (w2.heap[w.heap.size]? = some (.cells #[.int .i64 0, .int .i64 0, .int .i64 0, .int .i64 0] 42 (0, 0))) := Mm.hid ((hb2.block _ (Mm.heapLt HX1.out)).trans HX1.out)
  have HM2 := Mm.hid (H.out.below HB2.out)
  clear hb2 HB1 HX1
  have HAT := Mm.hid (refAt_any (Mm.hid HM2.out.rd) hs hn)
  have hi : s.pgs[L.length]? = some P := by rw [hs.out.e]; simp
  obtain ⟨l, hl⟩ : ∃ l, l = L.length := ⟨_, rfl⟩
  rw [← hl] at HAT hi
  obtain ⟨n, hnn⟩ : ∃ n, n = s.pgs.length := ⟨_, rfl⟩
  have hln : l < n := by rw [hnn]; exact (List.getElem?_eq_some_iff.1 hi).1
  rw [← hnn] at hn
  have g1 : (0 : Int) ≤ (l : Int) := by omega
  have g2 : (l : Int) < (n : Int) := by omega
  have HON := Mm.hid (HM2.out.ks P hs.out.mem).1
  obtain ⟨q, cq, ekf, hc1, hc2, hc3, hc4⟩ := HON.out.shape
  rw [Lf.strs_len] at ekf hc1
  obtain ⟨m, hm⟩ : ∃ m, m = P.ks.length := ⟨_, rfl⟩
  rw [← hm] at ekf hc1 hkl
  have HLL := Mm.hid hl
  have HN := Mm.hid hnn
  have HM := Mm.hid hm
  have HIX := Mm.hid hi
  have HSI : Hid (Lf.SIn w2 q P.ks) := Mm.hid (by
    obtain ⟨q', c', e', _, h'⟩ := Lf.own_sin HON.out
    rw [ekf] at e'
    injection e' with e1 _ _
    rw [e1]; exact h')
  have HSX : Hid (∀ w', Below w2.heap.size w2 w' → w'.cell? ⟨p, 0, none⟩ = some (.slice (some ⟨r, 0, none⟩) n c) ∧ w'.cell? ⟨r, l * 4 + 3, none⟩ = some (.slice q m cq) ∧ Lf.SIn w' q P.ks) := Mm.hid (fun w' hb => by
    have h1 := HM2.out.below hb
    have h2 := h1.rd.c0
    rw [← HN.out] at h2
    have h3 := (h1.rd.at_ l P HIX.out).2.2.2
    rw [ekf] at h3
    exact ⟨h2, h3, HSI.out.below hb⟩)
  clear hi hl hnn hm hc1 hc2 hc3 hc4 ekf
  go_wp2_with fail
  refine HAT.out.mono ?_
  rintro e w3 ⟨rfl, hw⟩
  obtain rfl := hw.symm
  clear HAT hw
  go_wp2_with fail
  go_loopw [6, 7] (fun vl vi wr => ∃ i : Nat, i ≤ m ∧ vi = .int .i64 (i : Int) ∧ Hid (Mm.Own wr w2.heap.size 9 vl (Lf.strs (Lf.without k (P.ks.take i)))) ∧ Hid (Below w2.heap.size w2 wr)) (fun _ vi _ => m - (RowKit.intOf vi).toNat)
  case atStart => exact ⟨0, Nat.zero_le _, rfl, Mm.hid (Mm.Own.nil _ _ _), Mm.hid (Below.refl _ _)⟩
  case round =>
    obtain ⟨i, hi1, rfl, HO, HB⟩ := hrel
    rename World => wr
    obtain ⟨c0, d3, hsi⟩ := HSX.out wr HB.out
    have HSIr := Mm.hid hsi
    obtain ⟨qo, co, evo, _⟩ := HO.out.shape
    obtain ⟨N, hN⟩ : ∃ N, N = (Lf.strs (Lf.without k (P.ks.take i))).length := ⟨_, rfl⟩
    rw [← hN] at evo
    subst evo
    have HNL := Mm.hid hN
    have HWL : Hid (w2.heap.size ≤ wr.heap.size) := Mm.hid HB.out.size
    have HN1 : Hid ((Lf.without k (P.ks.take i)).length ≤ i) := Mm.hid (Lf.without_len k P.ks i)
    clear hsi hN
    by_cases hlt : i < m
    · obtain ⟨y, hy⟩ : ∃ y, P.ks[i]? = some y := ⟨P.ks[i]'(by rw [← HM.out]; exact hlt), List.getElem?_eq_getElem _⟩
      have HY := Mm.hid hy
      obtain ⟨bq, oq, rfl, hbq, hcq⟩ := HSIr.out i y hy
      have g3 : (0 : Int) ≤ (i : Int) := by omega
      have g4 : (i : Int) < (m : Int) := by omega
      clear hy hbq
      by_cases hyk : y = k
      · have ee : (y.toList == k.toList) = true := by rw [hyk]; simp
        have HW : Hid (Lf.without k (P.ks.take (i + 1)) = Lf.without k (P.ks.take i)) := Mm.hid (Lf.without_eq HY.out hyk)
        clear hyk
        go_wp2_with fail
        exact ⟨⟨i + 1, by omega, by go_num, Mm.hid (by rw [HW.out]; exact HO.out), HB⟩, by simp [RowKit.intOf]; omega⟩
      · have ee : (y.toList == k.toList) = false := by rw [Lf.eqB]; exact decide_eq_false hyk
        have HW : Hid (Lf.strs (Lf.without k (P.ks.take (i + 1))) = Lf.strs (Lf.without k (P.ks.take i)) ++ [.string y]) := Mm.hid (by rw [Lf.without_ne HY.out hyk]; simp [Lf.strs])
        clear hyk
        go_wp2_with (at_builtin; go_loud (refine Lf.appT wr rfl _ _ rfl w2.heap.size (.slice qo N co) y _ rfl HO.out _ rfl rfl (by have := HN1.out; simp; omega) HWL.out ?_); intro v4 w4 h1 h2 h3)
        exact ⟨⟨i + 1, by omega, by go_num, Mm.hid (by rw [HW.out]; exact h1), Mm.hid (HB.out.grown h2 HWL.out (fun g hg => (HO.out.lt hg).2))⟩, by simp [RowKit.intOf]; omega⟩
    · have him : i = m := by omega
      subst him
      have HWA : Hid (Lf.without k (P.ks.take i) = A ++ B) := Mm.hid (by rw [HM.out, List.take_length]; exact Lf.without_kp (hI.out.ks P hs.out.mem).1 hk.out)
      have HO2 : Hid (Mm.Own wr w2.heap.size 9 (.slice qo N co) (Lf.strs (A ++ B))) := Mm.hid (by rw [← HWA.out]; exact HO.out)
      have HNA : Hid (N = (A ++ B).length) := Mm.hid (by rw [HNL.out, HWA.out, Lf.strs_len])
      have HM6 := Mm.hid (HM2.out.below HB.out)
      have HX6 : Hid (wr.heap[w.heap.size]? = some (.cells #[.int .i64 0, .int .i64 0, .int .i64 0, .int .i64 0] 42 (0, 0))) := Mm.hid ((HB.out.block _ (Mm.heapLt HX2.out)).trans HX2.out)
      obtain ⟨d0, -, -, -⟩ := HM6.out.rd.at_ _ P HIX.out
      have HBW6 : Hid (Below w.heap.size w wr) := Mm.hid (HB2.out.trans (HB.out.mono HB2.out.size))
      clear HO HNL HSIr HN1 hlt hi1
      go_upto_region 10 with fail
      clear d3
      go_cut [8] from 60 to 68 (fun v8 wx => v8 = .pointer (some ⟨wr.heap.size, 0, none⟩) ∧ wx = wr.alloc (.cells #[.int .i64 (P.n : Int), .int .i64 0, .int .i64 0, .int .i64 0] 42))
      case first =>
        go_wp2_with fail
        go_meet
        case rel => exact ⟨rfl, rfl⟩
      case rest =>
        obtain ⟨h8, hwx⟩ := hcut
        subst h8
        rename World => w7
        have HB7 : Hid (Below wr.heap.size wr w7) := Mm.hid (by rw [hwx]; exact (Below.refl _ _).alloc (Nat.le_refl _) _)
        have HX7 : Hid (w7.heap[wr.heap.size]? = some (.cells #[.int .i64 (P.n : Int), .int .i64 0, .int .i64 0, .int .i64 0] 42 (0, 0))) := Mm.hid (by rw [hwx]; exact Mm.newAt _ _ rfl)
        clear hwx c0 d0
        have HM7 := Mm.hid (HM6.out.below HB7.out)
        have HO7 := Mm.hid (HO2.out.below HB7.out)
        have HX7w : Hid (w7.heap[w.heap.size]? = some (.cells #[.int .i64 0, .int .i64 0, .int .i64 0, .int .i64 0] 42 (0, 0))) := Mm.hid ((HB7.out.block _ (Mm.heapLt HX6.out)).trans HX6.out)
        have HBW7 : Hid (Below w.heap.size w w7) := Mm.hid (HBW6.out.trans (HB7.out.mono HBW6.out.size))
        have HSZ : Hid (w.heap.size < wr.heap.size) := Mm.hid (Mm.heapLt HX6.out)
        obtain ⟨-, -, -, d3⟩ := HM7.out.rd.at_ _ P HIX.out
        have c0 := HM7.out.rd.c0
        rw [← HN.out] at c0
        have KEY : Hid ((decide ((0 : Int) < (N : Int)) || ((n : Int) == 1)) = true) := Mm.hid (by
          rcases hf.out with h | h
          · have : 0 < N := by
              rw [HNA.out]
              exact List.length_pos_iff.2 h
            rw [decide_eq_true (show (0 : Int) < (N : Int) by omega)]; rfl
          · have h9 := HN.out
            rw [hs.out.e, List.length_append, List.length_cons] at h9
            have h8 : L.length + R.length = 0 := by rw [← List.length_append, h]; rfl
            have : n = 1 := by omega
            rw [this]; simp)
        go_upto_region 11 with fail
        go_cut [79] from 69 to 79 (fun vt wx => vt = .bool true ∧ wx = w7)
        case first =>
          by_cases h0 : (0 : Int) < (N : Int)
          · go_wp2_with fail
            go_meet
            case rel => exact ⟨rfl, rfl⟩
          · have h1 : ((n : Int) == 1) = true := by
              have h9 := KEY.out
              rw [decide_eq_false h0] at h9
              simpa using h9
            have e0 : N = 0 := by omega
            clear h0
            subst e0
            go_wp2_with fail
            go_meet
            case rel => exact ⟨rfl, rfl⟩
        case rest =>
          obtain ⟨h79, hwx⟩ := hcut
          subst h79
          have hwx' := hwx.symm
          subst hwx'
          clear hwx
          have f3 : w7.frozen? ⟨r, l * 4 + 3, none⟩ = false := by
            obtain ⟨cur, h1, _⟩ := HM7.out.cells
            exact Lf.unfroz h1
          go_upto_region 12 with fail
          go_cut [6] from 80 to 87 (fun v6 wx => v6 = .slice qo N co ∧ wx = w7.setCell ⟨r, l * 4 + 3, none⟩ (.slice qo N co))
          case first =>
            go_wp2_with fail
            go_meet
            case rel => exact ⟨rfl, rfl⟩
          case rest =>
            obtain ⟨h9, hwx⟩ := hcut
            subst h9
            rename World => w8
            have HWX := Mm.hid hwx
            clear hwx
            clear c0 d3 f3
            have hr8 : r < w.heap.size := H.out.row.1
            have HX8 : Hid (w8.heap[wr.heap.size]? = some (.cells #[.int .i64 (P.n : Int), .int .i64 0, .int .i64 0, .int .i64 0] 42 (0, 0))) := Mm.hid (by rw [HWX.out, heap_setCell_other _ _ _ _ (by have := HSZ.out; simp; omega)]; exact HX7.out)
            have HX8w : Hid (w8.heap[w.heap.size]? = some (.cells #[.int .i64 0, .int .i64 0, .int .i64 0, .int .i64 0] 42 (0, 0))) := Mm.hid (by rw [HWX.out, heap_setCell_other _ _ _ _ (by simp; omega)]; exact HX7w.out)
            have e0 : w8.cell? ⟨wr.heap.size, 0, none⟩ = some (.int .i64 (P.n : Int)) := Mm.cellOf HX8.out rfl
            have e1 : w8.cell? ⟨wr.heap.size, 1, none⟩ = some (.int .i64 0) := Mm.cellOf HX8.out rfl
            have e2 : w8.cell? ⟨wr.heap.size, 2, none⟩ = some (.int .i64 0) := Mm.cellOf HX8.out rfl
            have e3 : w8.cell? ⟨wr.heap.size, 3, none⟩ = some (.int .i64 0) := Mm.cellOf HX8.out rfl
            have f0 : w8.cell? ⟨w.heap.size, 0, none⟩ = some (.int .i64 0) := Mm.cellOf HX8w.out rfl
            have f1 : w8.cell? ⟨w.heap.size, 1, none⟩ = some (.int .i64 0) := Mm.cellOf HX8w.out rfl
            have f2 : w8.cell? ⟨w.heap.size, 2, none⟩ = some (.int .i64 0) := Mm.cellOf HX8w.out rfl
            have f3 : w8.cell? ⟨w.heap.size, 3, none⟩ = some (.int .i64 0) := Mm.cellOf HX8w.out rfl
            have r0 : w8.frozen? ⟨w.heap.size, 0, none⟩ = false := Lf.unfroz HX8w.out
            have r1 : w8.frozen? ⟨w.heap.size, 1, none⟩ = false := Lf.unfroz HX8w.out
            have r2 : w8.frozen? ⟨w.heap.size, 2, none⟩ = false := Lf.unfroz HX8w.out
            have r3 : w8.frozen? ⟨w.heap.size, 3, none⟩ = false := Lf.unfroz HX8w.out
            go_wp2_with fail
            obtain ⟨x1, x2⟩ := Lf.rem_stay s L P R hf.out
            have hnr := hI.out.nd
            rw [hs.out.e] at hnr
            obtain ⟨n1, n2⟩ := Lf.nd_mid hnr
            have hnr2 : ∀ Q, Q ∈ L ∨ Q ∈ R → Q.n ≠ P.n := fun Q hQ => hQ.elim (n1 Q) (n2 Q)
            have hv2 : ∀ g, (Value.slice qo N co).ownBlock = some g → g ≠ p ∧ g ≠ r := fun g hg => by
              have h1 := (HO2.out.lt hg).2
              have h2 := Mm.heapLt HM2.out.head
              have h3 := HM2.out.row.1
              omega
            have hRK := HM7.out.setK (s' := Lf.remS s L P R (A ++ B)) hs.out.e hnr2 (ks := A ++ B) (by rw [x1]; rfl) (by rw [x1]; rfl) (by rw [x1]; rfl) (v := .slice qo N co) (HO7.out.base (Nat.le_trans hbase.out HB2.out.size)) hv2
            rw [← HLL.out, ← HWX.out] at hRK
            have hTC : Lf.Tc p r w w8 := by
              rw [HWX.out]
              exact (Lf.Tc.of HBW7.out).set (Or.inr (Or.inl rfl)) _ _
            have hfin := Lf.Out.fin H.out hRK hTC (fun b h => by
              rcases Lf.Rb.setK hs.out.e (by rw [x1]; rfl) hnr2 h with h | h
              · exact Or.inl h
              · have h1 := (HO2.out.lt h).2
                have h2 := Mm.heapLt HX2.out
                exact Or.inr (by omega)) (.int .i64 (P.n : Int)) (.int .i64 0) (.int .i64 0) (.int .i64 0)
            have hs4 := Lf.set4 (y0 := .int .i64 (P.n : Int)) (y1 := .int .i64 0) (y2 := .int .i64 0) (y3 := .int .i64 0) HX8w.out
            have hc0 := Mm.cellOf (i := 0) hs4 rfl
            have hc1 := Mm.cellOf (i := 1) hs4 rfl
            have hc2 := Mm.cellOf (i := 2) hs4 rfl
            have hc3 := Mm.cellOf (i := 3) hs4 rfl
            have hrem := Lf.RemR.ok hs.out hk.out
            rw [x2] at hrem
            exact bodyPost_ret (v := .agg #[.int .i64 (P.n : Int), .int .i64 0, .int .i64 0, .int .i64 0]) (by simp [results, Tryz.results37, go_sem, hc0, hc1, hc2, hc3]) rfl ⟨_, P.n, 0, 0, rfl, hrem, hfin⟩

end Go.Proofs.YtjnaafgiokdcbaaGreatDoor
