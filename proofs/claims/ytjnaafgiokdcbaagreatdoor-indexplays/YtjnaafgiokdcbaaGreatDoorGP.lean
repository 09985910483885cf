/- The reference's Remove. -/
import Derived.Test.YtjnaafgiokdcbaaGreatDoorGN
import Derived.Deep.CutRange
set_option maxRecDepth 100000
namespace Go.Proofs.YtjnaafgiokdcbaaGreatDoor
open Go.RowKit

set_option maxRecDepth 100000 in
set_option maxHeartbeats 8000000 in
theorem refRem_join {w : World} {base p r c : Nat} {kf : Nat → Value} {s : Lf.S} (H : Hid (Lf.Rm w base p r c kf s)) (hI : Hid (Lf.Inv s)) (hbase : Hid (base ≤ w.heap.size)) (hn : s.pgs.length ≤ 100000) {k : ByteArray} {L R : List Lf.Pg} {P : Lf.Pg} (hs : Hid (Lf.Spl s k L P R)) {A B : List ByteArray} (hk : Hid (Lf.Kp P.ks k A (k :: B))) (hf : Hid (A ++ B = [] ∧ L ++ R ≠ [])) :
    Calls Tryz.prog 37 #[.pointer (some ⟨p, 0, none⟩), .string k] w fun e w' => ∃ s' l f t, e = .returned (.agg #[.int .i64 ((l : Nat) : Int), .int .i64 ((f : Nat) : Int), .int .i64 ((t : Nat) : Int), .int .i64 0]) ∧ Lf.RemR s k s' l f t 0 ∧ Lf.Out w base p r kf s w' s' := by
  have hkl : P.ks.length ≤ 64 := by have := (hI.out.ks P hs.out.mem).2.2; have := hI.out.f2; omega
  obtain ⟨w1, hw1⟩ : ∃ w1, w.alloc (.cells #[.int .i64 0, .int .i64 0, .int .i64 0, .int .i64 0] 42) = w1 := ⟨_, rfl⟩
  have HB1 : Hid (Below w.heap.size w w1) := Mm.hid (by rw [← hw1]; exact (Below.refl _ _).alloc (Nat.le_refl _) _)
  have HX1 : Hid (w1.heap[w.heap.size]? = some (.cells #[.int .i64 0, .int .i64 0, .int .i64 0, .int .i64 0] 42 (0, 0))) := Mm.hid (by rw [← hw1]; exact Mm.newAt _ _ rfl)
  have hno : Lf.inKs P.ks k = true := Lf.inKs_iff.2 ((hk.out.mem (hI.out.ks P hs.out.mem).1).2 rfl)
  have hhas := refHas_any (Mm.hid (H.out.below HB1.out).rd) hs hn (by omega)
  rw [hno] at hhas
  have HHAS := Mm.hid hhas
  clear hhas hno
  go_enter Tryz.func37, Tryz.ntmps37
  go_wp2_with fail
  refine HHAS.out.mono ?_
  rintro e w2 ⟨rfl, hb2⟩
  clear HHAS
  have HB2 : Hid (Below w.heap.size w w2) := Mm.hid (HB1.out.trans (hb2.mono HB1.out.size))
  have HX2 : Hid (w2.heap[w.heap.size]? = some (.cells #[.int .i64 0, .int .i64 0, .int .i64 0, .int .i64 0] 42 (0, 0))) := Mm.hid ((hb2.block _ (Mm.heapLt HX1.out)).trans HX1.out)
  have HM2 := Mm.hid (H.out.below HB2.out)
  clear hb2 HB1 HX1
  have HAT := Mm.hid (refAt_any (Mm.hid HM2.out.rd) hs hn)
  have hi : s.pgs[L.length]? = some P := by rw [hs.out.e]; simp
  obtain ⟨l, hl⟩ : ∃ l, l = L.length := ⟨_, rfl⟩
  rw [← hl] at HAT hi
  obtain ⟨n, hnn⟩ : ∃ n, n = s.pgs.length := ⟨_, rfl⟩
  have hln : l < n := by rw [hnn]; exact (List.getElem?_eq_some_iff.1 hi).1
  rw [← hnn] at hn
  have g1 : (0 : Int) ≤ (l : Int) := by omega
  have g2 : (l : Int) < (n : Int) := by omega
  have HON := Mm.hid (HM2.out.ks P hs.out.mem).1
  obtain ⟨q, cq, ekf, hc1, hc2, hc3, hc4⟩ := HON.out.shape
  rw [Lf.strs_len] at ekf hc1
  obtain ⟨m, hm⟩ : ∃ m, m = P.ks.length := ⟨_, rfl⟩
  rw [← hm] at ekf hc1 hkl
  have HLL := Mm.hid hl
  have HN := Mm.hid hnn
  have HM := Mm.hid hm
  have HIX := Mm.hid hi
  have HSI : Hid (Lf.SIn w2 q P.ks) := Mm.hid (by
    obtain ⟨q', c', e', _, h'⟩ := Lf.own_sin HON.out
    rw [ekf] at e'
    injection e' with e1 _ _
    rw [e1]; exact h')
  have HSX : Hid (∀ w', Below w2.heap.size w2 w' → w'.cell? ⟨p, 0, none⟩ = some (.slice (some ⟨r, 0, none⟩) n c) ∧ w'.cell? ⟨r, l * 4 + 3, none⟩ = some (.slice q m cq) ∧ Lf.SIn w' q P.ks) := Mm.hid (fun w' hb => by
    have h1 := HM2.out.below hb
    have h2 := h1.rd.c0
    rw [← HN.out] at h2
    have h3 := (h1.rd.at_ l P HIX.out).2.2.2
    rw [ekf] at h3
    exact ⟨h2, h3, HSI.out.below hb⟩)
  clear hi hl hnn hm hc1 hc2 hc3 hc4 ekf
  go_wp2_with fail
  refine HAT.out.mono ?_
  rintro e w3 ⟨rfl, hw⟩
  obtain rfl := hw.symm
  clear HAT hw
  go_wp2_with fail
  go_loopw [6, 7] (fun vl vi wr => ∃ i : Nat, i ≤ m ∧ vi = .int .i64 (i : Int) ∧ Hid (Mm.Own wr w2.heap.size 9 vl (Lf.strs (Lf.without k (P.ks.take i)))) ∧ Hid (Below w2.heap.size w2 wr)) (fun _ vi _ => m - (RowKit.intOf vi).toNat)
  case atStart => exact ⟨0, Nat.zero_le _, rfl, Mm.hid (Mm.Own.nil _ _ _), Mm.hid (Below.refl _ _)⟩
  case round =>
    obtain ⟨i, hi1, rfl, HO, HB⟩ := hrel
    rename World => wr
    obtain ⟨c0, d3, hsi⟩ := HSX.out wr HB.out
    have HSIr := Mm.hid hsi
    obtain ⟨qo, co, evo, _⟩ := HO.out.shape
    obtain ⟨N, hN⟩ : ∃ N, N = (Lf.strs (Lf.without k (P.ks.take i))).length := ⟨_, rfl⟩
    rw [← hN] at evo
    subst evo
    have HNL := Mm.hid hN
    have HWL : Hid (w2.heap.size ≤ wr.heap.size) := Mm.hid HB.out.size
    have HN1 : Hid ((Lf.without k (P.ks.take i)).length ≤ i) := Mm.hid (Lf.without_len k P.ks i)
    clear hsi hN
    by_cases hlt : i < m
    · obtain ⟨y, hy⟩ : ∃ y, P.ks[i]? = some y := ⟨P.ks[i]'(by rw [← HM.out]; exact hlt), List.getElem?_eq_getElem _⟩
      have HY := Mm.hid hy
      obtain ⟨bq, oq, rfl, hbq, hcq⟩ := HSIr.out i y hy
      have g3 : (0 : Int) ≤ (i : Int) := by omega
      have g4 : (i : Int) < (m : Int) := by omega
      clear hy hbq
      by_cases hyk : y = k
      · have ee : (y.toList == k.toList) = true := by rw [hyk]; simp
        have HW : Hid (Lf.without k (P.ks.take (i + 1)) = Lf.without k (P.ks.take i)) := Mm.hid (Lf.without_eq HY.out hyk)
        clear hyk
        go_wp2_with fail
        exact ⟨⟨i + 1, by omega, by go_num, Mm.hid (by rw [HW.out]; exact HO.out), HB⟩, by simp [RowKit.intOf]; omega⟩
      · have ee : (y.toList == k.toList) = false := by rw [Lf.eqB]; exact decide_eq_false hyk
        have HW : Hid (Lf.strs (Lf.without k (P.ks.take (i + 1))) = Lf.strs (Lf.without k (P.ks.take i)) ++ [.string y]) := Mm.hid (by rw [Lf.without_ne HY.out hyk]; simp [Lf.strs])
        clear hyk
        go_wp2_with (at_builtin; go_loud (refine Lf.appT wr rfl _ _ rfl w2.heap.size (.slice qo N co) y _ rfl HO.out _ rfl rfl (by have := HN1.out; simp; omega) HWL.out ?_); intro v4 w4 h1 h2 h3)
        exact ⟨⟨i + 1, by omega, by go_num, Mm.hid (by rw [HW.out]; exact h1), Mm.hid (HB.out.grown h2 HWL.out (fun g hg => (HO.out.lt hg).2))⟩, by simp [RowKit.intOf]; omega⟩
    · have him : i = m := by omega
      subst him
      have HWA : Hid (Lf.without k (P.ks.take i) = A ++ B) := Mm.hid (by rw [HM.out, List.take_length]; exact Lf.without_kp (hI.out.ks P hs.out.mem).1 hk.out)
      have HO2 : Hid (Mm.Own wr w2.heap.size 9 (.slice qo N co) (Lf.strs (A ++ B))) := Mm.hid (by rw [← HWA.out]; exact HO.out)
      have HNA : Hid (N = (A ++ B).length) := Mm.hid (by rw [HNL.out, HWA.out, Lf.strs_len])
      have HM6 := Mm.hid (HM2.out.below HB.out)
      have HX6 : Hid (wr.heap[w.heap.size]? = some (.cells #[.int .i64 0, .int .i64 0, .int .i64 0, .int .i64 0] 42 (0, 0))) := Mm.hid ((HB.out.block _ (Mm.heapLt HX2.out)).trans HX2.out)
      obtain ⟨d0, -, -, -⟩ := HM6.out.rd.at_ _ P HIX.out
      have HBW6 : Hid (Below w.heap.size w wr) := Mm.hid (HB2.out.trans (HB.out.mono HB2.out.size))
      clear HO HNL HSIr HN1 hlt hi1
      go_upto_region 10 with fail
      clear d3
      go_cut [8] from 60 to 68 (fun v8 wx => v8 = .pointer (some ⟨wr.heap.size, 0, none⟩) ∧ wx = wr.alloc (.cells #[.int .i64 (P.n : Int), .int .i64 0, .int .i64 0, .int .i64 0] 42))
      case first =>
        go_wp2_with fail
        go_meet
        case rel => exact ⟨rfl, rfl⟩
      case rest =>
        obtain ⟨h8, hwx⟩ := hcut
        subst h8
        rename World => w7
        have HB7 : Hid (Below wr.heap.size wr w7) := Mm.hid (by rw [hwx]; exact (Below.refl _ _).alloc (Nat.le_refl _) _)
        have HX7 : Hid (w7.heap[wr.heap.size]? = some (.cells #[.int .i64 (P.n : Int), .int .i64 0, .int .i64 0, .int .i64 0] 42 (0, 0))) := Mm.hid (by rw [hwx]; exact Mm.newAt _ _ rfl)
        clear hwx c0 d0
        have HM7 := Mm.hid (HM6.out.below HB7.out)
        have HO7 := Mm.hid (HO2.out.below HB7.out)
        have HX7w : Hid (w7.heap[w.heap.size]? = some (.cells #[.int .i64 0, .int .i64 0, .int .i64 0, .int .i64 0] 42 (0, 0))) := Mm.hid ((HB7.out.block _ (Mm.heapLt HX6.out)).trans HX6.out)
        have HBW7 : Hid (Below w.heap.size w w7) := Mm.hid (HBW6.out.trans (HB7.out.mono HBW6.out.size))
        have HSZ : Hid (w.heap.size < wr.heap.size) := Mm.hid (Mm.heapLt HX6.out)
        obtain ⟨-, -, -, d3⟩ := HM7.out.rd.at_ _ P HIX.out
        have c0 := HM7.out.rd.c0
        rw [← HN.out] at c0
        have hN0 : N = 0 := by rw [HNA.out, hf.out.1]; rfl
        subst hN0
        have hn1 : ((n : Int) == 1) = false := by
          have h9 := HN.out
          rw [hs.out.e, List.length_append, List.length_cons] at h9
          have h8 : L.length + R.length ≠ 0 := fun h => hf.out.2 (List.eq_nil_iff_length_eq_zero.2 (by rw [List.length_append]; exact h))
          have h7 : ¬ ((n : Int) = 1) := by omega
          simpa using h7
        go_upto_region 11 with fail
        go_cut [79] from 69 to 79 (fun vt wx => vt = .bool false ∧ wx = w7)
        case first =>
          go_wp2_with fail
          go_meet
          case rel => exact ⟨rfl, rfl⟩
        case rest =>
          obtain ⟨h79, hwx⟩ := hcut
          subst h79
          have hwx' := hwx.symm
          subst hwx'
          clear hwx hn1 d3
          have hr8 : r < w.heap.size := H.out.row.1
          have hp8 : p < w.heap.size := Mm.heapLt H.out.head
          have HPL : Hid (p < w.heap.size ∧ r < w.heap.size ∧ w.heap.size < wr.heap.size) := Mm.hid ⟨hp8, hr8, HSZ.out⟩
          have e0 : w7.cell? ⟨wr.heap.size, 0, none⟩ = some (.int .i64 (P.n : Int)) := Mm.cellOf HX7.out rfl
          have e1 : w7.cell? ⟨wr.heap.size, 1, none⟩ = some (.int .i64 0) := Mm.cellOf HX7.out rfl
          have r1 : w7.frozen? ⟨wr.heap.size, 1, none⟩ = false := Lf.unfroz HX7.out
          go_upto_region 14 with fail
          go_cut [8] from 89 to 91 (fun v8 wx => v8 = .pointer (some ⟨wr.heap.size, 0, none⟩) ∧ wx = w7.setCell ⟨wr.heap.size, 1, none⟩ (.int .i64 (P.n : Int)))
          case first =>
            go_wp2_with fail
            go_meet
            case rel => exact ⟨rfl, rfl⟩
          case rest =>
            obtain ⟨h8, hwx⟩ := hcut
            subst h8
            rename World => w8
            have HBS8 : Hid (Lf.Bs wr.heap.size w7 w8) := Mm.hid (by rw [hwx]; exact (Lf.Bs.refl _ _).set _ _)
            have HX8 : Hid (w8.heap[wr.heap.size]? = some (.cells #[.int .i64 (P.n : Int), .int .i64 (P.n : Int), .int .i64 0, .int .i64 0] 42 (0, 0))) := Mm.hid (by rw [hwx]; exact heap_setCell_same _ _ _ _ _ _ HX7.out)
            clear hwx e0 e1 r1 c0
            have hpl := HPL.out
            have HROW8 : Hid (w8.cell? ⟨p, 0, none⟩ = some (.slice (some ⟨r, 0, none⟩) n c) ∧ ∀ (i : Nat) Q, s.pgs[i]? = some Q → w8.cell? ⟨r, i * 4, none⟩ = some (.int .i64 (Q.n : Int))) := Mm.hid (by
              have kp : ∀ (b o : Nat), b < wr.heap.size → w8.cell? ⟨b, o, none⟩ = w7.cell? ⟨b, o, none⟩ := fun b o h => World.cell?_of_block (a := ⟨b, o, none⟩) (HBS8.out.block b (by omega))
              refine ⟨(kp p 0 (by omega)).trans ?_, fun i Q hQ => (kp r _ (by omega)).trans (HM7.out.rd.at_ i Q hQ).1⟩
              have c0 := HM7.out.rd.c0
              rw [← HN.out] at c0
              exact c0)
            clear hpl
            obtain ⟨bs, hbs⟩ : ∃ bs, bs = Lf.beside L R := ⟨_, rfl⟩
            have HBE := Mm.hid hbs
            clear hbs
            have e2 : w8.cell? ⟨wr.heap.size, 2, none⟩ = some (.int .i64 0) := Mm.cellOf HX8.out rfl
            have r2 : w8.frozen? ⟨wr.heap.size, 2, none⟩ = false := Lf.unfroz HX8.out
            go_upto_if 93 with fail
            go_cut [8] from 92 to 111 (fun v8 wx => v8 = .pointer (some ⟨wr.heap.size, 0, none⟩) ∧ wx = w8.setCell ⟨wr.heap.size, 2, none⟩ (.int .i64 (bs : Int)))
            case first =>
              by_cases hl0 : 0 < l
              · obtain ⟨Q, hQ⟩ : ∃ Q, s.pgs[l - 1]? = some Q := ⟨s.pgs[l - 1]'(by rw [← HN.out]; omega), List.getElem?_eq_getElem _⟩
                obtain ⟨c0, d0⟩ := HROW8.out
                have d1 := d0 _ Q hQ
                clear d0
                have hqb : bs = Q.n := by
                  rw [HBE.out]
                  rw [hs.out.e] at hQ
                  exact (Lf.beside_l HLL.out hl0 hQ).symm
                subst hqb
                have h1 : (0 : Int) < (l : Int) := by omega
                obtain ⟨m, hm⟩ : ∃ m, m = l - 1 := ⟨_, rfl⟩
                rw [← hm] at d1
                have hlm : (l : Int) - 1 = (m : Int) := by omega
                have h2 : (0 : Int) ≤ (m : Int) := by omega
                have h3 : (m : Int) < (n : Int) := by omega
                clear hQ hl0 hm
                go_wp2_with fail
                go_meet
                case rel => exact ⟨rfl, rfl⟩
              · have h0 : l = 0 := by omega
                have hL : L = [] := List.eq_nil_iff_length_eq_zero.2 (by rw [← HLL.out]; exact h0)
                subst h0
                have hR : 1 < s.pgs.length := by
                  have h8 : L ++ R ≠ [] := hf.out.2
                  rw [hL] at h8
                  rw [hs.out.e, hL]
                  cases R with
                  | nil => exact absurd rfl h8
                  | cons X R => simp
                obtain ⟨Q, hQ⟩ : ∃ Q, s.pgs[1]? = some Q := ⟨s.pgs[1]'hR, List.getElem?_eq_getElem _⟩
                obtain ⟨c0, d0⟩ := HROW8.out
                have d1 : w8.cell? ⟨r, 4, none⟩ = some (.int .i64 (Q.n : Int)) := d0 _ Q hQ
                clear d0
                have hqb : bs = Q.n := by
                  rw [HBE.out]
                  rw [hs.out.e] at hQ
                  rw [hL] at hQ ⊢
                  exact (Lf.beside_r hQ).symm
                subst hqb
                have h3 : (1 : Int) < (n : Int) := by have := HN.out; omega
                clear hQ hR hL
                go_wp2_with fail
                go_meet
                case rel => exact ⟨rfl, rfl⟩
            case rest =>
              obtain ⟨h8, hwx⟩ := hcut
              subst h8
              rename World => w9
              have HBS9 : Hid (Lf.Bs wr.heap.size w7 w9) := Mm.hid (by rw [hwx]; exact HBS8.out.set _ _)
              have HX9 : Hid (w9.heap[wr.heap.size]? = some (.cells #[.int .i64 (P.n : Int), .int .i64 (P.n : Int), .int .i64 (bs : Int), .int .i64 0] 42 (0, 0))) := Mm.hid (by rw [hwx]; exact heap_setCell_same _ _ _ _ _ _ HX8.out)
              clear hwx e2 r2 HROW8 HX8 HBS8
              have HROW : Hid (∀ w', Below w9.heap.size w9 w' → w'.cell? ⟨p, 0, none⟩ = some (.slice (some ⟨r, 0, none⟩) n c) ∧ ∀ (i : Nat) Q, s.pgs[i]? = some Q → w'.cell? ⟨r, i * 4, none⟩ = some (.int .i64 (Q.n : Int)) ∧ w'.cell? ⟨r, i * 4 + 1, none⟩ = some (.bool (decide (Q.b = ⟨#[]⟩))) ∧ w'.cell? ⟨r, i * 4 + 2, none⟩ = some (.string Q.b) ∧ w'.cell? ⟨r, i * 4 + 3, none⟩ = some (kf Q.n)) := Mm.hid (fun w' hb => by
                have hpl := HPL.out
                have hz7 : wr.heap.size < w7.heap.size := Mm.heapLt HX7.out
                have kp : ∀ (b o : Nat), b < wr.heap.size → w'.cell? ⟨b, o, none⟩ = w7.cell? ⟨b, o, none⟩ := fun b o h => (Mm.belAt hb o (by rw [HBS9.out.size]; omega)).trans (World.cell?_of_block (a := ⟨b, o, none⟩) (HBS9.out.block b (by omega)))
                refine ⟨(kp p 0 (by omega)).trans ?_, fun i Q hQ => ?_⟩
                · have c0 := HM7.out.rd.c0
                  rw [← HN.out] at c0
                  exact c0
                · obtain ⟨x0, x1, x2, x3⟩ := HM7.out.rd.at_ i Q hQ
                  exact ⟨(kp r _ (by omega)).trans x0, (kp r _ (by omega)).trans x1, (kp r _ (by omega)).trans x2, (kp r _ (by omega)).trans x3⟩)
              have HKS : Hid (∀ Q ∈ s.pgs, ∃ qq mq cc, kf Q.n = .slice qq mq cc) := Mm.hid (fun Q hQ => by
                obtain ⟨qq, cc, e, _⟩ := (H.out.ks Q hQ).1.shape
                exact ⟨qq, _, cc, e⟩)
              go_wp2_with fail
              go_loopw [9, 10, 11] (fun vo vi _ wx => ∃ i : Nat, i ≤ n ∧ vi = .int .i64 (i : Int) ∧ Hid (Lf.RwJ w9 wx kf L R i vo)) (fun _ vi _ _ => n - (RowKit.intOf vi).toNat)
              case atStart => exact ⟨0, Nat.zero_le _, rfl, Mm.hid ⟨by rw [Lf.tlJ_0]; exact World.ownsRow_nil _ _ _ _, Below.refl _ _⟩⟩
              case round =>
                obtain ⟨i, hi1, rfl, HR⟩ := hrel
                rename World => wx
                obtain ⟨qo2, co2, evo⟩ := Lf.rowSl HR.out.own
                obtain ⟨M, hM⟩ : ∃ M, M = (Lf.TlJ L R i).length := ⟨_, rfl⟩
                rw [← hM] at evo
                have HML : Hid (M = (Lf.TlJ L R i).length) := Mm.hid hM
                have HM1 : Hid (M < 1000000) := Mm.hid (by rw [hM]; have := Lf.tlJ_len L R i; omega)
                have HWL9 : Hid (w9.heap.size ≤ wx.heap.size) := Mm.hid HR.out.bel.size
                have HRO : Hid (wx.ownsRow w9.heap.size 91 4 (.slice qo2 M co2) M (Lf.cellsL kf (Lf.TlJ L R i))) := Mm.hid (by
                  have h := HR.out.own
                  rw [evo, ← hM] at h
                  exact h)
                have hrow := HROW.out wx HR.out.bel
                clear hM
                by_cases hlt : i < n
                · obtain ⟨Q, hQ⟩ : ∃ Q, s.pgs[i]? = some Q := ⟨s.pgs[i]'(by rw [← HN.out]; exact hlt), List.getElem?_eq_getElem _⟩
                  obtain ⟨c0, hrow2⟩ := hrow
                  obtain ⟨d0, d1, d2, d3⟩ := hrow2 i Q hQ
                  clear hrow2
                  obtain ⟨qq, mq, cc, ekq⟩ := HKS.out Q (List.mem_of_getElem? hQ)
                  rw [ekq] at d3
                  have HEQ := Mm.hid ekq
                  have HQ := Mm.hid hQ
                  have g3 : (0 : Int) ≤ (i : Int) := by omega
                  have g4 : (i : Int) < (n : Int) := by omega
                  clear hQ ekq
                  subst evo
                  by_cases hil : i = l
                  · have hil' : ((i : Int) == (l : Int)) = true := by rw [hil]; simp
                    have HIL := Mm.hid hil
                    clear hil
                    go_wp2_with fail
                    exact ⟨⟨i + 1, by omega, by go_num, Mm.hid (by
                      have h1 := HR.out.own
                      have h2 : Lf.TlJ L R (i + 1) = Lf.TlJ L R i := by rw [HIL.out, HLL.out]; exact Lf.tlJ_at L R
                      exact ⟨by rw [h2]; exact Lf.rowBelow h1 ((Below.refl _ _).alloc (Nat.le_refl _) _), HR.out.bel.trans (((Below.refl _ _).alloc (Nat.le_refl _) _).mono HR.out.bel.size)⟩)⟩, by simp [RowKit.intOf]; omega⟩
                  · have hil' : ((i : Int) == (l : Int)) = false := by simp; omega
                    have HIL : Hid (i ≠ L.length) := Mm.hid (by rw [← HLL.out]; exact hil)
                    obtain ⟨Q', hq1, hq2, hq3⟩ : ∃ Q', Lf.TlJ L R (i + 1) = Lf.TlJ L R i ++ [Q'] ∧ Q'.n = Q.n ∧ (l = 0 ∧ i = 1 ∧ Q'.b = ⟨#[]⟩ ∨ ¬ (l = 0 ∧ i = 1) ∧ Q' = Q) := by
                      have h9 := HQ.out
                      have h8 := h9
                      have h7 := HLL.out
                      rw [hs.out.e] at h9
                      by_cases hop : l = 0 ∧ i = 1
                      · obtain ⟨hl0, hi0⟩ := hop
                        have hL : L = [] := List.eq_nil_iff_length_eq_zero.2 (by rw [← HLL.out]; exact hl0)
                        refine ⟨{ Q with b := ⟨#[]⟩ }, ?_, rfl, Or.inl ⟨hl0, hi0, rfl⟩⟩
                        rw [hL, hi0] at h9
                        rw [hL, hi0]
                        exact (Lf.tlJ_open h9).1
                      · refine ⟨Q, (Lf.tlJ_keep h9 HIL.out ?_).1, rfl, Or.inr ⟨hop, rfl⟩⟩
                        rcases Nat.eq_zero_or_pos i with h0 | h0
                        · subst h0
                          exact Or.inr (Lf.first_b hI.out h8)
                        · exact Or.inl ⟨h0, by omega⟩
                    have HTJ := Mm.hid hq1
                    have HLC : Hid (Lf.leafC kf Q' = [.int .i64 (Q'.n : Int), .bool (decide (Q'.b = ⟨#[]⟩)), .string Q'.b, .slice qq mq cc]) := Mm.hid (by
                      show [_, _, _, kf Q'.n] = _
                      rw [hq2, HEQ.out])
                    have HQN := Mm.hid hq2
                    have HQB := Mm.hid hq3
                    obtain ⟨w12, hw12⟩ : ∃ w12, wx.alloc (.cells #[.int .i64 (Q.n : Int), .bool (decide (Q.b = ⟨#[]⟩)), .string Q.b, .slice qq mq cc] 91) = w12 := ⟨_, rfl⟩
                    have HX12 : Hid (w12.heap[wx.heap.size]? = some (.cells #[.int .i64 (Q.n : Int), .bool (decide (Q.b = ⟨#[]⟩)), .string Q.b, .slice qq mq cc] 91 (0, 0))) := Mm.hid (by rw [← hw12]; exact Mm.newAt _ _ rfl)
                    have HB12 : Hid (Below wx.heap.size wx w12) := Mm.hid (by rw [← hw12]; exact (Below.refl _ _).alloc (Nat.le_refl _) _)
                    clear hil hq1 hq2 hq3
                    go_upto_region 24 with fail
                    clear hil' c0 d0 d1 d2 d3
                    go_cut [136] from 131 to 136 (fun vt wy => vt = .bool (decide (l = 0 ∧ i = 1)) ∧ wy = w12)
                    case first =>
                      clear hw12
                      by_cases hl0 : l = 0
                      · have h5 : ((l : Int) == 0) = true := by rw [hl0]; rfl
                        by_cases hi0 : i = 1
                        · have h6 : ((i : Int) == 1) = true := by rw [hi0]; rfl
                          have HD := Mm.hid (decide_eq_true (p := l = 0 ∧ i = 1) ⟨hl0, hi0⟩)
                          clear hl0 hi0
                          go_wp2_with fail
                          go_meet
                          case rel => exact ⟨congrArg Value.bool HD.out.symm, rfl⟩
                        · have h6 : ((i : Int) == 1) = false := by simp; omega
                          have HD := Mm.hid (decide_eq_false (p := l = 0 ∧ i = 1) (fun h => hi0 h.2))
                          clear hl0 hi0
                          go_wp2_with fail
                          go_meet
                          case rel => exact ⟨congrArg Value.bool HD.out.symm, rfl⟩
                      · have h5 : ((l : Int) == 0) = false := by simp; omega
                        have HD := Mm.hid (decide_eq_false (p := l = 0 ∧ i = 1) (fun h => hl0 h.1))
                        clear hl0
                        go_wp2_with fail
                        go_meet
                        case rel => exact ⟨congrArg Value.bool HD.out.symm, rfl⟩
                    case rest =>
                    obtain ⟨h136, hwy⟩ := hcut
                    subst h136
                    have hwy' := hwy.symm
                    subst hwy'
                    go_upto_if 136 with fail
                    go_cut [11] from 131 to 138 (fun v11 wy => v11 = .pointer (some ⟨wx.heap.size, 0, none⟩) ∧ Hid (wy.heap[wx.heap.size]? = some (.cells #[.int .i64 (Q'.n : Int), .bool (decide (Q'.b = ⟨#[]⟩)), .string Q'.b, .slice qq mq cc] 91 (0, 0)) ∧ Below wx.heap.size wx wy))
                    case first =>
                      have y0 : w12.cell? ⟨wx.heap.size, 0, none⟩ = some (.int .i64 (Q.n : Int)) := Mm.cellOf HX12.out rfl
                      have y1 : w12.cell? ⟨wx.heap.size, 1, none⟩ = some (.bool (decide (Q.b = ⟨#[]⟩))) := Mm.cellOf HX12.out rfl
                      have y2 : w12.cell? ⟨wx.heap.size, 2, none⟩ = some (.string Q.b) := Mm.cellOf HX12.out rfl
                      have z1 : w12.frozen? ⟨wx.heap.size, 1, none⟩ = false := Lf.unfroz HX12.out
                      have z2 : w12.frozen? ⟨wx.heap.size, 2, none⟩ = false := Lf.unfroz HX12.out
                      clear hw12
                      by_cases hop : l = 0 ∧ i = 1
                      · have HQO : Hid (Q'.b = ⟨#[]⟩) := Mm.hid (by
                          rcases HQB.out with h | h
                          · exact h.2.2
                          · exact absurd hop h.1)
                        rw [decide_eq_true hop]
                        clear hop
                        go_wp2_with fail
                        go_meet
                        case rel =>
                          refine ⟨rfl, Mm.hid ⟨?_, (HB12.out.setCell (Nat.le_refl _) _).setCell (Nat.le_refl _) _⟩⟩
                          rw [HQN.out, HQO.out]
                          exact heap_setCell_same _ _ _ _ _ _ (heap_setCell_same _ _ _ _ _ _ HX12.out)
                      · have HQO : Hid (Q' = Q) := Mm.hid (by
                          rcases HQB.out with h | h
                          · exact absurd ⟨h.1, h.2.1⟩ hop
                          · exact h.2)
                        rw [decide_eq_false hop]
                        clear hop
                        go_wp2_with fail
                        go_meet
                        case rel =>
                          refine ⟨rfl, Mm.hid ⟨?_, HB12.out⟩⟩
                          rw [HQO.out]
                          exact HX12.out
                    case rest =>
                      obtain ⟨h11, hwy⟩ := hcut
                      subst h11
                      rename World => w13
                      have HX13 : Hid (w13.heap[wx.heap.size]? = some (.cells #[.int .i64 (Q'.n : Int), .bool (decide (Q'.b = ⟨#[]⟩)), .string Q'.b, .slice qq mq cc] 91 (0, 0))) := Mm.hid hwy.out.1
                      have HB13 : Hid (Below wx.heap.size wx w13) := Mm.hid hwy.out.2
                      have y0 : w13.cell? ⟨wx.heap.size, 0, none⟩ = some (.int .i64 (Q'.n : Int)) := Mm.cellOf HX13.out rfl
                      have y1 : w13.cell? ⟨wx.heap.size, 1, none⟩ = some (.bool (decide (Q'.b = ⟨#[]⟩))) := Mm.cellOf HX13.out rfl
                      have y2 : w13.cell? ⟨wx.heap.size, 2, none⟩ = some (.string Q'.b) := Mm.cellOf HX13.out rfl
                      have y3 : w13.cell? ⟨wx.heap.size, 3, none⟩ = some (.slice qq mq cc) := Mm.cellOf HX13.out rfl
                      have HKQ : Hid (kf Q'.n = .slice qq mq cc) := Mm.hid (by rw [HQN.out]; exact HEQ.out)
                      clear hwy hw12
                      go_wp2_with (at_builtin; refine Lf.appL rfl _ _ rfl w9.heap.size (.slice qo2 M co2) M (Lf.cellsL kf (Lf.TlJ L R i)) kf Q' ⟨qq, mq, cc, HKQ.out⟩ rfl (Lf.rowBelow HRO.out (HB13.out.alloc HB13.out.size _)) _ rfl (by rw [HLC.out]; exact Lf.leaf_new _ (by simp)) HM1.out (by simp; have := HWL9.out; have := HB13.out.size; omega) ?_; intro v2 w2' h1 h2 h3)
                      exact ⟨⟨i + 1, by omega, by go_num, Mm.hid (HR.out.add HTJ.out (HB13.out.alloc HB13.out.size _) (by rw [← HML.out]; exact h1) h2)⟩, by simp [RowKit.intOf]; omega⟩
                · have hin : i = n := by omega
                  have HT : Hid (Lf.TlJ L R i = Lf.open1 (L ++ R)) := Mm.hid (Lf.tlJ_end (by
                    rw [hin, HN.out, hs.out.e, List.length_append, List.length_cons]
                    omega))
                  have HNn : Hid (M = (Lf.open1 (L ++ R)).length) := Mm.hid (by rw [HML.out, HT.out])
                  obtain ⟨ro, co', ero⟩ := Lf.rowShape HRO.out (by
                    rw [HNn.out, Lf.open1_len]
                    exact fun h => hf.out.2 (List.eq_nil_iff_length_eq_zero.2 h))
                  injection ero with ero _ eco
                  subst ero eco
                  subst evo
                  have HRO2 : Hid (wx.ownsRow w9.heap.size 91 4 (.slice (some ⟨ro, 0, none⟩) M co2) M (Lf.cellsL kf (Lf.open1 (L ++ R)))) := Mm.hid (by rw [← HT.out]; exact HRO.out)
                  have hpl := HPL.out
                  have hz7 : wr.heap.size < w7.heap.size := Mm.heapLt HX7.out
                  have HZ9 : Hid (wr.heap.size < w9.heap.size ∧ w9.heap.size ≤ ro) := Mm.hid ⟨by rw [HBS9.out.size]; exact hz7, (Lf.rowLt HRO2.out (g := ro) rfl).1⟩
                  have hz9 := HZ9.out
                  have KR : Hid (∀ g, g < wr.heap.size → wx.heap[g]? = wr.heap[g]?) := Mm.hid (fun g h1 => (HR.out.bel.block g (by omega)).trans ((HBS9.out.block g (by omega)).trans (HB7.out.block g h1)))
                  have HHR : Hid (wx.heap[p]? = some (.cells #[.slice (some ⟨r, 0, none⟩) s.pgs.length c, .int .i64 (s.fan : Int), .int .i64 ((s.last : Int) + 1)] 88 (0, 0))) := Mm.hid ((KR.out p (by omega)).trans HM6.out.head)
                  have HXr : Hid (wx.heap[wr.heap.size]? = some (.cells #[.int .i64 (P.n : Int), .int .i64 (P.n : Int), .int .i64 (bs : Int), .int .i64 0] 42 (0, 0))) := Mm.hid ((HR.out.bel.block _ (by omega)).trans HX9.out)
                  have HXrw : Hid (wx.heap[w.heap.size]? = some (.cells #[.int .i64 0, .int .i64 0, .int .i64 0, .int .i64 0] 42 (0, 0))) := Mm.hid ((KR.out _ (by omega)).trans HX6.out)
                  have HTCr : Hid (Lf.Tc p r w wx) := Mm.hid (((Lf.Tc.of HBW7.out).bs HBS9.out (Or.inr (Or.inr (by omega)))).bel2 HR.out.bel)
                  have c0 := hrow.1
                  have fr0 : wx.frozen? ⟨p, 0, none⟩ = false := Lf.unfroz HHR.out
                  clear hrow hpl hz7 hz9 HRO
                  subst hin
                  go_upto_region 27 with fail
                  go_cut [9] from 143 to 146 (fun v9 wy => v9 = .slice (some ⟨ro, 0, none⟩) M co2 ∧ wy = wx.setCell ⟨p, 0, none⟩ (.slice (some ⟨ro, 0, none⟩) M co2))
                  case first =>
                    go_wp2_with fail
                    go_meet
                    case rel => exact ⟨rfl, rfl⟩
                  case rest =>
                    obtain ⟨h11, hwy⟩ := hcut
                    subst h11
                    rename World => w20
                    have HWX := Mm.hid hwy
                    clear hwy c0 fr0
                    have hpl := HPL.out
                    have HX20 : Hid (w20.heap[wr.heap.size]? = some (.cells #[.int .i64 (P.n : Int), .int .i64 (P.n : Int), .int .i64 (bs : Int), .int .i64 0] 42 (0, 0))) := Mm.hid (by rw [HWX.out, heap_setCell_other _ _ _ _ (by simp; omega)]; exact HXr.out)
                    have HX20w : Hid (w20.heap[w.heap.size]? = some (.cells #[.int .i64 0, .int .i64 0, .int .i64 0, .int .i64 0] 42 (0, 0))) := Mm.hid (by rw [HWX.out, heap_setCell_other _ _ _ _ (by simp; omega)]; exact HXrw.out)
                    have e0 : w20.cell? ⟨wr.heap.size, 0, none⟩ = some (.int .i64 (P.n : Int)) := Mm.cellOf HX20.out rfl
                    have e1 : w20.cell? ⟨wr.heap.size, 1, none⟩ = some (.int .i64 (P.n : Int)) := Mm.cellOf HX20.out rfl
                    have e2 : w20.cell? ⟨wr.heap.size, 2, none⟩ = some (.int .i64 (bs : Int)) := Mm.cellOf HX20.out rfl
                    have e3 : w20.cell? ⟨wr.heap.size, 3, none⟩ = some (.int .i64 0) := Mm.cellOf HX20.out rfl
                    have f0 : w20.cell? ⟨w.heap.size, 0, none⟩ = some (.int .i64 0) := Mm.cellOf HX20w.out rfl
                    have f1 : w20.cell? ⟨w.heap.size, 1, none⟩ = some (.int .i64 0) := Mm.cellOf HX20w.out rfl
                    have f2 : w20.cell? ⟨w.heap.size, 2, none⟩ = some (.int .i64 0) := Mm.cellOf HX20w.out rfl
                    have f3 : w20.cell? ⟨w.heap.size, 3, none⟩ = some (.int .i64 0) := Mm.cellOf HX20w.out rfl
                    have r0 : w20.frozen? ⟨w.heap.size, 0, none⟩ = false := Lf.unfroz HX20w.out
                    have r1 : w20.frozen? ⟨w.heap.size, 1, none⟩ = false := Lf.unfroz HX20w.out
                    have r2 : w20.frozen? ⟨w.heap.size, 2, none⟩ = false := Lf.unfroz HX20w.out
                    have r3 : w20.frozen? ⟨w.heap.size, 3, none⟩ = false := Lf.unfroz HX20w.out
                    clear hpl
                    go_wp2_with fail
                    clear e0 e1 e2 e3 f0 f1 f2 f3 r0 r1 r2 r3
                    obtain ⟨x1, x2⟩ := Lf.rem_join s L P R hf.out
                    have epg : (Lf.remS s L P R (A ++ B)).pgs = Lf.open1 (L ++ R) := by rw [x1]
                    have hpl := HPL.out
                    have hz9 := HZ9.out
                    have hb9 := hbase.out
                    have MEM : ∀ Q ∈ Lf.open1 (L ++ R), ∃ Q0 ∈ s.pgs, Q0.n = Q.n ∧ Q0.ks = Q.ks := fun Q hQ => by
                      obtain ⟨Q0, h0, h1, h2⟩ := Lf.open1_mem hQ
                      refine ⟨Q0, ?_, h1, h2⟩
                      rw [hs.out.e]
                      rcases List.mem_append.1 h0 with h | h <;> simp [h]
                    have hks : ∀ Q ∈ (Lf.remS s L P R (A ++ B)).pgs, Mm.Own wx base 9 (kf Q.n) (Lf.strs Q.ks) ∧ ∀ g, (kf Q.n).ownBlock = some g → g ≠ p ∧ g ≠ ro := fun Q hQ => by
                      rw [epg] at hQ
                      obtain ⟨Q0, hm, en, ek⟩ := MEM Q hQ
                      rw [← en, ← ek]
                      have ho := H.out.ks Q0 hm
                      refine ⟨ho.1.keep (fun g hg => ?_), fun g hg => ⟨(ho.2 g hg).1, ?_⟩⟩
                      · have h9 := (ho.1.lt hg).1
                        exact (KR.out g (by omega)).trans (HBW6.out.block g h9)
                      · have h9 := (ho.1.lt hg).1
                        omega
                    have hRM := Lf.Rm.putRow H.out (s' := Lf.remS s L P R (A ++ B)) (r' := ro) (c' := co2) (n := M) (kf' := kf) (by rw [x1]; rfl) (d := (s.last : Int) + 1) (by rw [x1]; rfl) HHR.out (by rw [epg]; exact HNn.out) (by rw [epg]; exact Lf.rowBase HRO2.out (by omega)) (by omega) hks
                    rw [← HWX.out] at hRM
                    have hTC : Lf.Tc p r w w20 := by rw [HWX.out]; exact HTCr.out.set (Or.inl rfl) _ _
                    have hfin := Lf.Out.fin H.out hRM hTC (fun b h => by
                      rcases h with h | h | ⟨Q, hQ, h⟩
                      · exact Or.inl (Or.inl h)
                      · exact Or.inr (by omega)
                      · rw [epg] at hQ
                        obtain ⟨Q0, hm, en, ek⟩ := MEM Q hQ
                        exact Or.inl (Or.inr (Or.inr ⟨Q0, hm, by rw [en]; exact h⟩))) (.int .i64 (P.n : Int)) (.int .i64 (P.n : Int)) (.int .i64 (bs : Int)) (.int .i64 0)
                    have hs4 := Lf.set4 (y0 := .int .i64 (P.n : Int)) (y1 := .int .i64 (P.n : Int)) (y2 := .int .i64 (bs : Int)) (y3 := .int .i64 0) HX20w.out
                    have hc0 := Mm.cellOf (i := 0) hs4 rfl
                    have hc1 := Mm.cellOf (i := 1) hs4 rfl
                    have hc2 := Mm.cellOf (i := 2) hs4 rfl
                    have hc3 := Mm.cellOf (i := 3) hs4 rfl
                    have hrem := Lf.RemR.ok hs.out hk.out
                    rw [x2] at hrem
                    exact bodyPost_ret (v := .agg #[.int .i64 (P.n : Int), .int .i64 (P.n : Int), .int .i64 (bs : Int), .int .i64 0]) (by simp [results, Tryz.results37, go_sem, hc0, hc1, hc2, hc3]) rfl ⟨_, P.n, P.n, bs, rfl, by rw [HBE.out]; exact hrem, hfin⟩

end Go.Proofs.YtjnaafgiokdcbaaGreatDoor
