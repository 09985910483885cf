/- The law IndexParts. -/
import Derived.Test.YtjnaafgiokdcbaaGreatDoorI8
namespace Go.Proofs.YtjnaafgiokdcbaaGreatDoor
open Go.RowKit
attribute [local go_sem] Fl.run_store_float
attribute [local go_sem ↓] Go.wp_at_zero Go.wp_at_succ

set_option maxRecDepth 100000 in
set_option maxHeartbeats 4000000 in
theorem indexParts_all (a : Option Addr) (l c : Nat) (zs : List Ix.Stp) (n0 n1 n2 : Int) (W : World) (hM : Ky.Mx W) (hz : Ix.Stps W a l c zs) (hn : (-128 ≤ n0 ∧ n0 ≤ 127) ∧ (-128 ≤ n1 ∧ n1 ≤ 127) ∧ (-128 ≤ n2 ∧ n2 ≤ 127)) :
    Calls Tryz.prog 6 #[.slice a l c, .agg #[.int .i8 n0, .int .i8 n1, .int .i8 n2]] W fun e w' => e = .returned (.bool true) ∧ Below W.heap.size W w' := by
  have HM := Mm.hid hM
  have HZ := Mm.hid hz
  have HN := Mm.hid hn
  have hbig : l ≤ 9223372036854775807 := hz.big
  have HNW := Mm.hid (newI_q 3 (by omega) (by omega))
  clear hM hz hn
  go_enter Tryz.func6, Tryz.ntmps6
  go_upto_region 1 with fail
  obtain ⟨gn, hgn⟩ : ∃ g, g = W.heap.size := ⟨_, rfl⟩
  obtain ⟨w0, hw0⟩ : ∃ x, (W.alloc (.cells #[.int .i8 n0, .int .i8 n1, .int .i8 n2] 65)) = x := ⟨_, rfl⟩
  have HG0 : Hid (w0.heap[gn]? = some (.cells #[.int .i8 n0, .int .i8 n1, .int .i8 n2] 65 (0, 0))) := Mm.hid (by rw [← hw0]; exact Mm.newAt _ _ hgn)
  have HB0 : Hid (Below W.heap.size W w0) := Mm.hid (by rw [← hw0]; exact (Below.refl _ _).alloc (Nat.le_refl _) _)
  rw [← hgn, hw0]
  clear hw0
  go_wp2_with fail
  refine (HNW.out w0).mono ?_
  rintro e w1 ⟨pb, pl, tg, rfl, hq1, hb1⟩
  obtain ⟨h, hh⟩ : ∃ h, h = w0.heap.size := ⟨_, rfl⟩
  rw [← hh] at hq1
  have HQ1 := Mm.hid hq1
  have HK1 : Hid (W.heap.size ≤ h ∧ h ≤ w1.heap.size) := Mm.hid ⟨by rw [hh]; exact HB0.out.size, by rw [hh]; exact hb1.size⟩
  have HB1 : Hid (Below W.heap.size W w1) := Mm.hid (Vl.btr HB0.out hb1)
  have HG1 : Hid (Ix.Bx w1 tg gn (.cells #[.int .i8 n0, .int .i8 n1, .int .i8 n2] 65 (0, 0))) := Mm.hid ⟨(hb1.block _ (Mm.heapLt HG0.out)).trans HG0.out, hq1.q.bot _ (by rw [hh]; exact Mm.heapLt HG0.out)⟩
  clear hb1 hq1 hh HG0 HB0 HNW hgn
  go_wp2_with fail
  refine (fair11_any a l c zs W w1 HZ HB1 hbig).mono ?_
  rintro e w2 ⟨b, rfl, hf, hb2⟩
  have HQ2 := Mm.hid (HQ1.out.below hb2)
  have HK2 : Hid (W.heap.size ≤ h ∧ h ≤ w2.heap.size) := Mm.hid ⟨HK1.out.1, Nat.le_trans HK1.out.2 hb2.size⟩
  have HB2 : Hid (Below W.heap.size W w2) := Mm.hid (Vl.btr HB1.out hb2)
  have HG2 := Mm.hid (HG1.out.below hb2)
  clear hb2 HQ1 HK1 HB1 HG1
  cases b with
  | false =>
    go_wp2_with fail
    refine (wakesI_any _ (HM.out.below HB2.out)).mono ?_
    rintro e wk ⟨rfl, hb⟩
    have HBK := Mm.hid (Vl.btr HB2.out hb)
    clear hb
    go_wp2_with fail
    go_ret
    exact ⟨rfl, HBK.out⟩
  | true =>
    have hl : l ≤ 150 := hf rfl
    clear hf
    go_wp2_with fail
    go_loopw [7] (fun vi wr => ∃ (k : Nat) (s : Lf.S) (tg : Nat → Option Lf.Tg) (E : List (Vl.V × Nat)), k ≤ l ∧ vi = .int .i64 (k : Int) ∧ Hid (Ix.Iq h wr tg pb pl s k ∧ Ix.Et s E ∧ (W.heap.size ≤ h ∧ h ≤ wr.heap.size) ∧ Below W.heap.size W wr ∧ Ix.Bx wr tg gn (.cells #[.int .i8 n0, .int .i8 n1, .int .i8 n2] 65 (0, 0)))) (fun vi _ => l - (RowKit.intOf vi).toNat)
    case atStart => exact ⟨0, _, _, [], Nat.zero_le _, rfl, Mm.hid ⟨HQ2.out, Ix.et0 3, HK2.out, HB2.out, HG2.out⟩⟩
    case round =>
      clear HQ2 HK2 HB2 HG2
      obtain ⟨k, s, tg, E, hk, rfl, HR⟩ := hrel
      have HRe := HR.out
      obtain ⟨hq, hE, hK, hB, hG⟩ := HRe
      have HQ := Mm.hid hq
      have HE := Mm.hid hE
      have HK := Mm.hid hK
      have HB := Mm.hid hB
      have HG := Mm.hid hG
      clear hq hE hK hB hG HR
      by_cases hlt : k < l
      · obtain ⟨x, hx⟩ : ∃ x, zs[k]? = some x := ⟨zs[k]'(by rw [HZ.out.len]; exact hlt), List.getElem?_eq_getElem _⟩
        have HF := Mm.hid (HZ.out.fit k x hx)
        obtain ⟨b, o, ha, hbl, d⟩ := HZ.out.get HB.out hx
        subst ha
        have HSK : Hid (∀ w', Below h wr w' → w'.cell? ⟨b, o + k * 10 + 1, none⟩ = some (.int .i64 x.tid) ∧ w'.cell? ⟨b, o + k * 10 + 2, none⟩ = some (.int .i64 x.v.k) ∧ w'.cell? ⟨b, o + k * 10 + 3, none⟩ = some (.int .i64 x.v.n) ∧ w'.cell? ⟨b, o + k * 10 + 4, none⟩ = some (.float .f64 x.v.f) ∧ w'.cell? ⟨b, o + k * 10 + 5, none⟩ = some (.string x.v.s)) := Mm.hid (fun w' hw => by
          have hb' : b < h := Nat.lt_of_lt_of_le hbl HK.out.1
          exact ⟨(hw.cell (p := ⟨b, _, none⟩) hb').trans d.c1, (hw.cell (p := ⟨b, _, none⟩) hb').trans d.c2, (hw.cell (p := ⟨b, _, none⟩) hb').trans d.c3, (hw.cell (p := ⟨b, _, none⟩) hb').trans d.c4, (hw.cell (p := ⟨b, _, none⟩) hb').trans d.c5⟩)
        have d0 := d.c0
        have g1 : (0 : Int) ≤ (k : Int) := by omega
        have g2 : (k : Int) < (l : Int) := by omega
        have HKk : Hid (k ≤ 4000) := Mm.hid (by omega)
        clear hx d
        have HAD : Hid (∀ w', Below wr.heap.size wr w' → Calls Tryz.prog 11 #[.pointer (some ⟨pb, 0, none⟩), .agg #[.int .i64 x.v.k, .int .i64 x.v.n, .float .f64 x.v.f, .string x.v.s], .int .i64 x.tid] w' fun e w2 => ∃ v, e = .returned v ∧ Below h wr w2 ∧ ∃ s' tg' E', Ix.Iq h w2 tg' pb pl s' (k + 1) ∧ Ix.Et s' E' ∧ (W.heap.size ≤ h ∧ h ≤ w2.heap.size) ∧ Below W.heap.size W w2 ∧ Ix.Bx w2 tg' gn (.cells #[.int .i8 n0, .int .i8 n1, .int .i8 n2] 65 (0, 0))) := Mm.hid (fun w' hw =>
          (add_any (Mm.hid (HQ.out.below hw)) HKk.out (Nat.le_trans HK.out.2 hw.size) x.v x.tid (HM.out.below (Vl.btr HB.out hw)) (Ix.fitIn HF.out.1)).mono fun e w2 ⟨s', l', f', t', er', he, hr, tg', hq', hE'⟩ => by
            have h1 : Below h w' w2 := hE'.bel (Nat.le_trans HK.out.2 hw.size) HQ.out.q.bot
            have h2 : Below h wr w2 := (hw.mono HK.out.2).trans h1
            obtain ⟨E', hEt⟩ := Ix.add_et HE.out (Ix.fitIn HF.out.1) hr
            exact ⟨_, he, h2, s', tg', E', hq', hEt, ⟨HK.out.1, Nat.le_trans HK.out.2 h2.size⟩, HB.out.trans (h2.mono HK.out.1), (HG.out.below hw).ev hE'⟩)
        have HDD : Hid (∀ w', Below wr.heap.size wr w' → Calls Tryz.prog 13 #[.pointer (some ⟨pb, 0, none⟩), .agg #[.int .i64 x.v.k, .int .i64 x.v.n, .float .f64 x.v.f, .string x.v.s], .int .i64 x.tid] w' fun e w2 => ∃ v, e = .returned v ∧ Below h wr w2 ∧ ∃ s' tg' E', Ix.Iq h w2 tg' pb pl s' (k + 1) ∧ Ix.Et s' E' ∧ (W.heap.size ≤ h ∧ h ≤ w2.heap.size) ∧ Below W.heap.size W w2 ∧ Ix.Bx w2 tg' gn (.cells #[.int .i8 n0, .int .i8 n1, .int .i8 n2] 65 (0, 0))) := Mm.hid (fun w' hw =>
          (drop_any (Mm.hid (HQ.out.below hw)) HKk.out (Nat.le_trans HK.out.2 hw.size) x.v x.tid (HM.out.below (Vl.btr HB.out hw)) (Ix.fitIn HF.out.1)).mono fun e w2 ⟨s', l', f', t', er', he, hr, tg', hq', hE'⟩ => by
            have h1 : Below h w' w2 := hE'.bel (Nat.le_trans HK.out.2 hw.size) HQ.out.q.bot
            have h2 : Below h wr w2 := (hw.mono HK.out.2).trans h1
            obtain ⟨E', hEt⟩ := Ix.drop_et HQ.out.q.2.1 HE.out (Ix.fitIn HF.out.1) hr
            exact ⟨_, he, h2, s', tg', E', hq', hEt, ⟨HK.out.1, Nat.le_trans HK.out.2 h2.size⟩, HB.out.trans (h2.mono HK.out.1), (HG.out.below hw).ev hE'⟩)
        by_cases hkd : x.kd = 1
        · have hkq : (x.kd == 1) = true := by rw [hkd]; rfl
          clear hkd
          go_wp2_with fail
          go_region_held3 (fun w' => w'.cell? ⟨b, o + k * 10 + 1, none⟩ = some (.int .i64 x.tid) ∧ w'.cell? ⟨b, o + k * 10 + 2, none⟩ = some (.int .i64 x.v.k) ∧ w'.cell? ⟨b, o + k * 10 + 3, none⟩ = some (.int .i64 x.v.n) ∧ w'.cell? ⟨b, o + k * 10 + 4, none⟩ = some (.float .f64 x.v.f) ∧ w'.cell? ⟨b, o + k * 10 + 5, none⟩ = some (.string x.v.s))
            (first | exact HSK.out _ hbx | exact HSK.out _ (Below.drew (Below.refl _ _)) | exact HSK.out _ (Below.refl _ _))
            (first | (go_at_call 13; refine (HDD.out _ ?_).mono ?_; exact Below.drew (Below.refl _ _); rintro e w3 ⟨v3, rfl, hbx, s3, tg3, E3, h3⟩))
          have H3 := Mm.hid h3
          clear h3 hbx
          go_wp2_with fail
          exact ⟨⟨k + 1, s3, tg3, E3, by omega, by go_num, H3⟩, by simp [RowKit.intOf]; omega⟩
        · have hkq : (x.kd == 1) = false := beq_eq_false_iff_ne.2 hkd
          clear hkd
          go_wp2_with fail
          go_region_held3 (fun w' => w'.cell? ⟨b, o + k * 10 + 1, none⟩ = some (.int .i64 x.tid) ∧ w'.cell? ⟨b, o + k * 10 + 2, none⟩ = some (.int .i64 x.v.k) ∧ w'.cell? ⟨b, o + k * 10 + 3, none⟩ = some (.int .i64 x.v.n) ∧ w'.cell? ⟨b, o + k * 10 + 4, none⟩ = some (.float .f64 x.v.f) ∧ w'.cell? ⟨b, o + k * 10 + 5, none⟩ = some (.string x.v.s))
            (first | exact HSK.out _ hbx | exact HSK.out _ (Below.drew (Below.refl _ _)) | exact HSK.out _ (Below.refl _ _))
            (first | (go_at_call 11; refine (HAD.out _ ?_).mono ?_; exact Below.drew (Below.refl _ _); rintro e w3 ⟨v3, rfl, hbx, s3, tg3, E3, h3⟩))
          have H3 := Mm.hid h3
          clear h3 hbx
          go_wp2_with fail
          exact ⟨⟨k + 1, s3, tg3, E3, by omega, by go_num, H3⟩, by simp [RowKit.intOf]; omega⟩
      · obtain rfl : k = l := by omega
        have HKl : Hid (k ≤ 4900 ∧ ∀ w', Ix.Iq h w' tg pb pl s k → ∀ v x, (Ix.rangeT s v x).length ≤ 200) := Mm.hid ⟨by omega, fun w' hq v x => by
          unfold Ix.rangeT
          split
          · rw [List.length_map]
            exact Nat.le_trans (Ix.spanK_cnt hq.q.2.1 _ _) (Nat.le_trans hq.q.2.2.2 (by omega))
          · exact Nat.zero_le _⟩
        clear hk hlt hl
        have c0 : wr.cell? ⟨gn, 0, none⟩ = some (.int .i8 n0) := Mm.cellOf HG.out.at_ rfl
        have c1 : wr.cell? ⟨gn, 1, none⟩ = some (.int .i8 n1) := Mm.cellOf HG.out.at_ rfl
        have c2 : wr.cell? ⟨gn, 2, none⟩ = some (.int .i8 n2) := Mm.cellOf HG.out.at_ rfl
        go_upto_region 10 with fail
        go_quiet (fail)
        obtain ⟨wq, hwq⟩ : ∃ x, wr.drewN nq = x := ⟨_, rfl⟩
        have HQq : Hid (Ix.Iq h wq tg pb pl s k) := Mm.hid (HQ.out.same (by rw [← hwq]; rfl))
        have HBq : Hid (Below W.heap.size W wq) := Mm.hid (by rw [← hwq]; exact ⟨HB.out.os, HB.out.tape, HB.out.output, HB.out.size, HB.out.block⟩)
        have HKq : Hid (W.heap.size ≤ h ∧ h ≤ wq.heap.size) := Mm.hid ⟨HK.out.1, by rw [← hwq]; exact HK.out.2⟩
        rw [hwq]
        clear hwq c0 c1 c2 HQ HB HK HG
        obtain ⟨m1, j1⟩ : ∃ x, (if n2 < if n1 < n0 then n1 else n0 then n2 else if n1 < n0 then n1 else n0) = x := ⟨_, rfl⟩
        obtain ⟨m3, j3⟩ : ∃ x, (if (if n0 < n1 then n1 else n0) < n2 then n2 else if n0 < n1 then n1 else n0) = x := ⟨_, rfl⟩
        rw [j1, j3]
        obtain ⟨mn, h1⟩ : ∃ x, wrap64 m1 = x := ⟨_, rfl⟩
        obtain ⟨sm, h2⟩ : ∃ x, wrap64 (wrap64 (wrap64 n0 + wrap64 n1) + wrap64 n2) = x := ⟨_, rfl⟩
        obtain ⟨mx, h3⟩ : ∃ x, wrap64 m3 = x := ⟨_, rfl⟩
        rw [h1, h2, h3]
        rw [← j1] at h1
        rw [← j3] at h3
        clear j1 j3
        have HO := Mm.hid (fun (md : Int) (h4 : wrap64 (wrap64 (sm - mn) - mx) = md) => Ix.mid_ok HN.out h1 h2 h3 h4)
        clear h1 h2 h3
        go_upto_region 12 with fail
        obtain ⟨md, h4⟩ : ∃ x, wrap64 (wrap64 (sm - mn) - mx) = x := ⟨_, rfl⟩
        rw [h4]
        have HO2 := Mm.hid (HO.out md h4)
        clear h4 HO
        go_upto_region 13 with fail
        obtain ⟨gv, hgv⟩ : ∃ x, x = wq.heap.size := ⟨_, rfl⟩
        obtain ⟨wv, hwv⟩ : ∃ x, wq.alloc (.cells #[(.int .i64 2), (.int .i64 mn), (.float .f64 0), (.string ⟨#[]⟩), (.int .i64 2), (.int .i64 md), (.float .f64 0), (.string ⟨#[]⟩), (.int .i64 2), (.int .i64 mx), (.float .f64 0), (.string ⟨#[]⟩)] 66) = x := ⟨_, rfl⟩
        rw [← hgv, hwv]
        have HV : Hid (wv.heap[gv]? = some (.cells #[(.int .i64 2), (.int .i64 mn), (.float .f64 0), (.string ⟨#[]⟩), (.int .i64 2), (.int .i64 md), (.float .f64 0), (.string ⟨#[]⟩), (.int .i64 2), (.int .i64 mx), (.float .f64 0), (.string ⟨#[]⟩)] 66 (0, 0))) := Mm.hid (by rw [← hwv]; exact Mm.newAt _ _ hgv)
        have HQv : Hid (Ix.Iq h wv tg pb pl s k) := Mm.hid (by rw [← hwv]; exact HQq.out.below ((Below.refl _ _).alloc (Nat.le_refl _) _))
        have HBv : Hid (Below W.heap.size W wv) := Mm.hid (by rw [← hwv]; exact HBq.out.alloc HBq.out.size _)
        clear hwv hgv HQq HBq HKq
        have HG3 : Hid ((Ky.GoodV (Ix.vI mn) ∧ Ky.GoodV (Ix.vI md) ∧ Ky.GoodV (Ix.vI mx)) ∧ Ky.GoodV (Ix.vI (mn + 1))) := Mm.hid (by
          have := HO2.out
          exact ⟨⟨Ix.gI (by omega) (by omega), Ix.gI (by omega) (by omega), Ix.gI (by omega) (by omega)⟩, Ix.gI (by omega) (by omega)⟩)
        have HP : Hid (Ix.rangeT s (Ix.vI mn) (Ix.vI mx) = Ix.rangeT s (Ix.vI mn) (Ix.vI md) ++ Ix.rangeT s (Ix.vI md) (Ix.vI mx) ∧ Ix.findT s (Ix.vI mn) = Ix.rangeT s (Ix.vI mn) (Ix.vI (mn + 1))) := Mm.hid ⟨Ix.parts_range HQv.out.q.2.1 HG3.out.1.1 HG3.out.1.2.1 HG3.out.1.2.2 HO2.out.1 HO2.out.2.1, Ix.parts_find HE.out HQv.out.q.2.1 HG3.out.1.1 HG3.out.2⟩
        have HK49 : Hid (k ≤ 4900 ∧ ∀ v x, (Ix.rangeT s v x).length ≤ 200) := Mm.hid ⟨HKl.out.1, HKl.out.2 wv HQv.out⟩
        have e0 : wv.cell? ⟨gv, 0, none⟩ = some (.int .i64 2) := Mm.cellOf HV.out rfl
        have e1 : wv.cell? ⟨gv, 1, none⟩ = some (.int .i64 mn) := Mm.cellOf HV.out rfl
        have e2 : wv.cell? ⟨gv, 2, none⟩ = some (.float .f64 0) := Mm.cellOf HV.out rfl
        have e3 : wv.cell? ⟨gv, 3, none⟩ = some (.string ⟨#[]⟩) := Mm.cellOf HV.out rfl
        have e4 : wv.cell? ⟨gv, 4, none⟩ = some (.int .i64 2) := Mm.cellOf HV.out rfl
        have e5 : wv.cell? ⟨gv, 5, none⟩ = some (.int .i64 md) := Mm.cellOf HV.out rfl
        have e6 : wv.cell? ⟨gv, 6, none⟩ = some (.float .f64 0) := Mm.cellOf HV.out rfl
        have e7 : wv.cell? ⟨gv, 7, none⟩ = some (.string ⟨#[]⟩) := Mm.cellOf HV.out rfl
        have e8 : wv.cell? ⟨gv, 8, none⟩ = some (.int .i64 2) := Mm.cellOf HV.out rfl
        have e9 : wv.cell? ⟨gv, 9, none⟩ = some (.int .i64 mx) := Mm.cellOf HV.out rfl
        have e10 : wv.cell? ⟨gv, 10, none⟩ = some (.float .f64 0) := Mm.cellOf HV.out rfl
        have e11 : wv.cell? ⟨gv, 11, none⟩ = some (.string ⟨#[]⟩) := Mm.cellOf HV.out rfl
        have HW1 : Hid (-9223372036854775808 ≤ mn + 1 ∧ mn + 1 ≤ 9223372036854775807) := Mm.hid (by have := HO2.out; omega)
        clear HKl HO2 HE
        clear e0 e1 e2 e3 e4 e5 e6 e7 e8 e9 e10 e11
        have HV_wv := HV
        have HQ_wv := HQv
        have HB_wv := HBv
        clear HV HQv HBv
        have e0 : wv.cell? ⟨gv, 0, none⟩ = some (.int .i64 2) := Mm.cellOf HV_wv.out rfl
        have e1 : wv.cell? ⟨gv, 1, none⟩ = some (.int .i64 mn) := Mm.cellOf HV_wv.out rfl
        have e2 : wv.cell? ⟨gv, 2, none⟩ = some (.float .f64 0) := Mm.cellOf HV_wv.out rfl
        have e3 : wv.cell? ⟨gv, 3, none⟩ = some (.string ⟨#[]⟩) := Mm.cellOf HV_wv.out rfl
        have e4 : wv.cell? ⟨gv, 4, none⟩ = some (.int .i64 2) := Mm.cellOf HV_wv.out rfl
        have e5 : wv.cell? ⟨gv, 5, none⟩ = some (.int .i64 md) := Mm.cellOf HV_wv.out rfl
        have e6 : wv.cell? ⟨gv, 6, none⟩ = some (.float .f64 0) := Mm.cellOf HV_wv.out rfl
        have e7 : wv.cell? ⟨gv, 7, none⟩ = some (.string ⟨#[]⟩) := Mm.cellOf HV_wv.out rfl
        have e8 : wv.cell? ⟨gv, 8, none⟩ = some (.int .i64 2) := Mm.cellOf HV_wv.out rfl
        have e9 : wv.cell? ⟨gv, 9, none⟩ = some (.int .i64 mx) := Mm.cellOf HV_wv.out rfl
        have e10 : wv.cell? ⟨gv, 10, none⟩ = some (.float .f64 0) := Mm.cellOf HV_wv.out rfl
        have e11 : wv.cell? ⟨gv, 11, none⟩ = some (.string ⟨#[]⟩) := Mm.cellOf HV_wv.out rfl
        have HR : Hid (Calls Tryz.prog 17 #[.pointer (some ⟨pb, 0, none⟩), .agg #[.int .i64 2, .int .i64 mn, .float .f64 0, .string ⟨#[]⟩], .agg #[.int .i64 2, .int .i64 mx, .float .f64 0, .string ⟨#[]⟩]] wv fun e w' => ∃ v1 v2, e = .returned (.tuple #[v1, v2]) ∧ Ix.Tw wv w' v1 v2 (Ix.rangeT s (Ix.vI mn) (Ix.vI mx)) (Ix.rangeL s (Ix.vI mn) (Ix.vI mx))) := Mm.hid (irange_any HQ_wv HK49.out.1 (Ix.vI mn) (Ix.vI mx) (HM.out.below HB_wv.out) HG3.out.1.1.inn HG3.out.1.2.2.inn)
        go_wp2_with fail
        refine HR.out.mono ?_
        rintro e wa ⟨vA, vAL, rfl, hT⟩
        obtain ⟨qA, cA, eA, IA⟩ := hT.o1.nin
        obtain ⟨nA, hnA⟩ : ∃ n, n = (List.map (fun n : Nat => (n : Int)) (Ix.rangeT s (Ix.vI mn) (Ix.vI mx))).length := ⟨_, rfl⟩
        rw [← hnA] at eA
        subst eA
        have HnA := Mm.hid hnA
        have HIA_wa := Mm.hid IA
        clear hnA IA
        have HV_wa : Hid (wa.heap[gv]? = some (.cells #[(.int .i64 2), (.int .i64 mn), (.float .f64 0), (.string ⟨#[]⟩), (.int .i64 2), (.int .i64 md), (.float .f64 0), (.string ⟨#[]⟩), (.int .i64 2), (.int .i64 mx), (.float .f64 0), (.string ⟨#[]⟩)] 66 (0, 0))) := Mm.hid ((hT.bel.block _ (Mm.heapLt HV_wv.out)).trans HV_wv.out)
        have HQ_wa := Mm.hid (HQ_wv.out.below hT.bel)
        have HB_wa : Hid (Below W.heap.size W wa) := Mm.hid (Vl.btr HB_wv.out hT.bel)
        clear e0 e1 e2 e3 e4 e5 e6 e7 e8 e9 e10 e11
        clear hT HR HV_wv HQ_wv HB_wv
        have e0 : wa.cell? ⟨gv, 0, none⟩ = some (.int .i64 2) := Mm.cellOf HV_wa.out rfl
        have e1 : wa.cell? ⟨gv, 1, none⟩ = some (.int .i64 mn) := Mm.cellOf HV_wa.out rfl
        have e2 : wa.cell? ⟨gv, 2, none⟩ = some (.float .f64 0) := Mm.cellOf HV_wa.out rfl
        have e3 : wa.cell? ⟨gv, 3, none⟩ = some (.string ⟨#[]⟩) := Mm.cellOf HV_wa.out rfl
        have e4 : wa.cell? ⟨gv, 4, none⟩ = some (.int .i64 2) := Mm.cellOf HV_wa.out rfl
        have e5 : wa.cell? ⟨gv, 5, none⟩ = some (.int .i64 md) := Mm.cellOf HV_wa.out rfl
        have e6 : wa.cell? ⟨gv, 6, none⟩ = some (.float .f64 0) := Mm.cellOf HV_wa.out rfl
        have e7 : wa.cell? ⟨gv, 7, none⟩ = some (.string ⟨#[]⟩) := Mm.cellOf HV_wa.out rfl
        have e8 : wa.cell? ⟨gv, 8, none⟩ = some (.int .i64 2) := Mm.cellOf HV_wa.out rfl
        have e9 : wa.cell? ⟨gv, 9, none⟩ = some (.int .i64 mx) := Mm.cellOf HV_wa.out rfl
        have e10 : wa.cell? ⟨gv, 10, none⟩ = some (.float .f64 0) := Mm.cellOf HV_wa.out rfl
        have e11 : wa.cell? ⟨gv, 11, none⟩ = some (.string ⟨#[]⟩) := Mm.cellOf HV_wa.out rfl
        have HR : Hid (Calls Tryz.prog 17 #[.pointer (some ⟨pb, 0, none⟩), .agg #[.int .i64 2, .int .i64 mn, .float .f64 0, .string ⟨#[]⟩], .agg #[.int .i64 2, .int .i64 md, .float .f64 0, .string ⟨#[]⟩]] wa fun e w' => ∃ v1 v2, e = .returned (.tuple #[v1, v2]) ∧ Ix.Tw wa w' v1 v2 (Ix.rangeT s (Ix.vI mn) (Ix.vI md)) (Ix.rangeL s (Ix.vI mn) (Ix.vI md))) := Mm.hid (irange_any HQ_wa HK49.out.1 (Ix.vI mn) (Ix.vI md) (HM.out.below HB_wa.out) HG3.out.1.1.inn HG3.out.1.2.1.inn)
        go_wp2_with fail
        refine HR.out.mono ?_
        rintro e wb ⟨vO, vOL, rfl, hT⟩
        have HIA_wb := Mm.hid (HIA_wa.out.below hT.bel)
        have HO_wb := Mm.hid hT.o1
        have HV_wb : Hid (wb.heap[gv]? = some (.cells #[(.int .i64 2), (.int .i64 mn), (.float .f64 0), (.string ⟨#[]⟩), (.int .i64 2), (.int .i64 md), (.float .f64 0), (.string ⟨#[]⟩), (.int .i64 2), (.int .i64 mx), (.float .f64 0), (.string ⟨#[]⟩)] 66 (0, 0))) := Mm.hid ((hT.bel.block _ (Mm.heapLt HV_wa.out)).trans HV_wa.out)
        have HQ_wb := Mm.hid (HQ_wa.out.below hT.bel)
        have HB_wb : Hid (Below W.heap.size W wb) := Mm.hid (Vl.btr HB_wa.out hT.bel)
        clear e0 e1 e2 e3 e4 e5 e6 e7 e8 e9 e10 e11
        clear hT HR HV_wa HQ_wa HB_wa
        clear HIA_wa
        have e0 : wb.cell? ⟨gv, 0, none⟩ = some (.int .i64 2) := Mm.cellOf HV_wb.out rfl
        have e1 : wb.cell? ⟨gv, 1, none⟩ = some (.int .i64 mn) := Mm.cellOf HV_wb.out rfl
        have e2 : wb.cell? ⟨gv, 2, none⟩ = some (.float .f64 0) := Mm.cellOf HV_wb.out rfl
        have e3 : wb.cell? ⟨gv, 3, none⟩ = some (.string ⟨#[]⟩) := Mm.cellOf HV_wb.out rfl
        have e4 : wb.cell? ⟨gv, 4, none⟩ = some (.int .i64 2) := Mm.cellOf HV_wb.out rfl
        have e5 : wb.cell? ⟨gv, 5, none⟩ = some (.int .i64 md) := Mm.cellOf HV_wb.out rfl
        have e6 : wb.cell? ⟨gv, 6, none⟩ = some (.float .f64 0) := Mm.cellOf HV_wb.out rfl
        have e7 : wb.cell? ⟨gv, 7, none⟩ = some (.string ⟨#[]⟩) := Mm.cellOf HV_wb.out rfl
        have e8 : wb.cell? ⟨gv, 8, none⟩ = some (.int .i64 2) := Mm.cellOf HV_wb.out rfl
        have e9 : wb.cell? ⟨gv, 9, none⟩ = some (.int .i64 mx) := Mm.cellOf HV_wb.out rfl
        have e10 : wb.cell? ⟨gv, 10, none⟩ = some (.float .f64 0) := Mm.cellOf HV_wb.out rfl
        have e11 : wb.cell? ⟨gv, 11, none⟩ = some (.string ⟨#[]⟩) := Mm.cellOf HV_wb.out rfl
        have HR : Hid (Calls Tryz.prog 17 #[.pointer (some ⟨pb, 0, none⟩), .agg #[.int .i64 2, .int .i64 md, .float .f64 0, .string ⟨#[]⟩], .agg #[.int .i64 2, .int .i64 mx, .float .f64 0, .string ⟨#[]⟩]] wb fun e w' => ∃ v1 v2, e = .returned (.tuple #[v1, v2]) ∧ Ix.Tw wb w' v1 v2 (Ix.rangeT s (Ix.vI md) (Ix.vI mx)) (Ix.rangeL s (Ix.vI md) (Ix.vI mx))) := Mm.hid (irange_any HQ_wb HK49.out.1 (Ix.vI md) (Ix.vI mx) (HM.out.below HB_wb.out) HG3.out.1.2.1.inn HG3.out.1.2.2.inn)
        go_wp2_with fail
        refine HR.out.mono ?_
        rintro e wc ⟨vT, vTL, rfl, hT⟩
        have HIA_wc := Mm.hid (HIA_wb.out.below hT.bel)
        have HO_wc := Mm.hid (HO_wb.out.below hT.bel)
        have HT_wc := Mm.hid hT.o1
        have HV_wc : Hid (wc.heap[gv]? = some (.cells #[(.int .i64 2), (.int .i64 mn), (.float .f64 0), (.string ⟨#[]⟩), (.int .i64 2), (.int .i64 md), (.float .f64 0), (.string ⟨#[]⟩), (.int .i64 2), (.int .i64 mx), (.float .f64 0), (.string ⟨#[]⟩)] 66 (0, 0))) := Mm.hid ((hT.bel.block _ (Mm.heapLt HV_wb.out)).trans HV_wb.out)
        have HQ_wc := Mm.hid (HQ_wb.out.below hT.bel)
        have HB_wc : Hid (Below W.heap.size W wc) := Mm.hid (Vl.btr HB_wb.out hT.bel)
        clear e0 e1 e2 e3 e4 e5 e6 e7 e8 e9 e10 e11
        clear hT HR HV_wb HQ_wb HB_wb
        clear HIA_wb HO_wb
        have HF : Hid (∀ w', Below wc.heap.size wc w' → Mm.Own w' wa.heap.size 3 vO (Mm.nts (Ix.rangeT s (Ix.vI mn) (Ix.vI md))) ∧ Mm.Own w' wb.heap.size 3 vT (Mm.nts (Ix.rangeT s (Ix.vI md) (Ix.vI mx))) ∧ Mm.IIn w' qA (List.map (fun n : Nat => (n : Int)) (Ix.rangeT s (Ix.vI mn) (Ix.vI mx))) ∧ w'.heap[gv]? = some (.cells #[(.int .i64 2), (.int .i64 mn), (.float .f64 0), (.string ⟨#[]⟩), (.int .i64 2), (.int .i64 md), (.float .f64 0), (.string ⟨#[]⟩), (.int .i64 2), (.int .i64 mx), (.float .f64 0), (.string ⟨#[]⟩)] 66 (0, 0)) ∧ Ix.Iq h w' tg pb pl s k ∧ Below W.heap.size W w') := Mm.hid (fun w' hw =>
          ⟨HO_wc.out.below hw, HT_wc.out.below hw, HIA_wc.out.below hw, (hw.block _ (Mm.heapLt HV_wc.out)).trans HV_wc.out, HQ_wc.out.below hw, Vl.btr HB_wc.out hw⟩)
        have HB0 : Hid (Below wc.heap.size wc (wc.alloc (.cells #[] 3))) := Mm.hid ((Below.refl _ _).alloc (Nat.le_refl _) _)
        have HE0 : Hid (Mm.Own (wc.alloc (.cells #[] 3)) wc.heap.size 3 (.slice (some ⟨wc.heap.size, 0, none⟩) 0 0) (Mm.nts [])) := Mm.hid (Ix.own_empty (Mm.newAt wc _ rfl))
        have HLE : Hid (([] : List Nat).length + (Ix.rangeT s (Ix.vI mn) (Ix.vI md)).length < 1000000 ∧ (([] : List Nat) ++ (Ix.rangeT s (Ix.vI mn) (Ix.vI md))).length + (Ix.rangeT s (Ix.vI md) (Ix.vI mx)).length < 1000000) := Mm.hid (by
          have h1 := HK49.out.2 (Ix.vI mn) (Ix.vI md)
          have h2 := HK49.out.2 (Ix.vI md) (Ix.vI mx)
          rw [List.nil_append]
          simp only [List.length_nil]
          omega)
        clear HIA_wc HO_wc HT_wc HV_wc HQ_wc HB_wc
        go_wp2_with (first
          | (at_builtin; refine Ix.appRow rfl _ _ rfl wc.heap.size wa.heap.size (.slice (some ⟨wc.heap.size, 0, none⟩) 0 0) vO [] (Ix.rangeT s (Ix.vI mn) (Ix.vI md)) rfl HE0.out rfl (HF.out _ HB0.out).1 HLE.out.1 (by simp) ?_; intro va wd hA gA; have HBd := Mm.hid (HB0.out.grown gA (by simp) (fun g hg => (HE0.out.lt hg).2)); have HAd := Mm.hid hA; clear hA gA)
          | (at_builtin; refine Ix.appRow rfl _ _ rfl wc.heap.size wb.heap.size va vT ([] ++ (Ix.rangeT s (Ix.vI mn) (Ix.vI md))) (Ix.rangeT s (Ix.vI md) (Ix.vI mx)) rfl HAd.out rfl (HF.out _ HBd.out).2.1 HLE.out.2 HBd.out.size ?_; intro vb we hB gB; have HBe := Mm.hid (HBd.out.grown gB HBd.out.size (fun g hg => (HAd.out.lt hg).2)); obtain ⟨qB, cB, eB, IB⟩ := hB.nin; obtain ⟨nB, hnB⟩ : ∃ n, n = (List.map (fun n : Nat => (n : Int)) ([] ++ (Ix.rangeT s (Ix.vI mn) (Ix.vI md)) ++ (Ix.rangeT s (Ix.vI md) (Ix.vI mx)))).length := ⟨_, rfl⟩; rw [← hnB] at eB; subst eB; have HIB := Mm.hid IB; have HnB := Mm.hid hnB; clear hnB IB hB gB))
        have hix := ints_gen (List.map (fun n : Nat => (n : Int)) (Ix.rangeT s (Ix.vI mn) (Ix.vI mx))) (List.map (fun n : Nat => (n : Int)) ([] ++ (Ix.rangeT s (Ix.vI mn) (Ix.vI md)) ++ (Ix.rangeT s (Ix.vI md) (Ix.vI mx)))) qA qB nA nB cA cB we (Mm.hid (HF.out _ HBe.out).2.2.1) HIB HnA HnB (by rw [List.length_map]; have := HK49.out.2 (Ix.vI mn) (Ix.vI mx); omega)
        rw [decide_eq_true (show List.map (fun n : Nat => (n : Int)) (Ix.rangeT s (Ix.vI mn) (Ix.vI mx)) = List.map (fun n : Nat => (n : Int)) ([] ++ (Ix.rangeT s (Ix.vI mn) (Ix.vI md)) ++ (Ix.rangeT s (Ix.vI md) (Ix.vI mx))) by rw [List.nil_append, HP.out.1])] at hix
        have HIX := Mm.hid hix
        clear hix
        refine HIX.out.mono ?_
        rintro e wf ⟨rfl, hbf⟩
        have HBf := Mm.hid (HBe.out.trans (hbf.mono HBe.out.size))
        have HV_wf : Hid (wf.heap[gv]? = some (.cells #[(.int .i64 2), (.int .i64 mn), (.float .f64 0), (.string ⟨#[]⟩), (.int .i64 2), (.int .i64 md), (.float .f64 0), (.string ⟨#[]⟩), (.int .i64 2), (.int .i64 mx), (.float .f64 0), (.string ⟨#[]⟩)] 66 (0, 0))) := Mm.hid (HF.out _ HBf.out).2.2.2.1
        have HQ_wf := Mm.hid (HF.out _ HBf.out).2.2.2.2.1
        have HB_wf := Mm.hid (HF.out _ HBf.out).2.2.2.2.2
        clear HIX hbf HBe HBd HAd HIB HnA HnB HB0 HE0 HLE HBf HF
        have e0 : wf.cell? ⟨gv, 0, none⟩ = some (.int .i64 2) := Mm.cellOf HV_wf.out rfl
        have e1 : wf.cell? ⟨gv, 1, none⟩ = some (.int .i64 mn) := Mm.cellOf HV_wf.out rfl
        have e2 : wf.cell? ⟨gv, 2, none⟩ = some (.float .f64 0) := Mm.cellOf HV_wf.out rfl
        have e3 : wf.cell? ⟨gv, 3, none⟩ = some (.string ⟨#[]⟩) := Mm.cellOf HV_wf.out rfl
        have e4 : wf.cell? ⟨gv, 4, none⟩ = some (.int .i64 2) := Mm.cellOf HV_wf.out rfl
        have e5 : wf.cell? ⟨gv, 5, none⟩ = some (.int .i64 md) := Mm.cellOf HV_wf.out rfl
        have e6 : wf.cell? ⟨gv, 6, none⟩ = some (.float .f64 0) := Mm.cellOf HV_wf.out rfl
        have e7 : wf.cell? ⟨gv, 7, none⟩ = some (.string ⟨#[]⟩) := Mm.cellOf HV_wf.out rfl
        have e8 : wf.cell? ⟨gv, 8, none⟩ = some (.int .i64 2) := Mm.cellOf HV_wf.out rfl
        have e9 : wf.cell? ⟨gv, 9, none⟩ = some (.int .i64 mx) := Mm.cellOf HV_wf.out rfl
        have e10 : wf.cell? ⟨gv, 10, none⟩ = some (.float .f64 0) := Mm.cellOf HV_wf.out rfl
        have e11 : wf.cell? ⟨gv, 11, none⟩ = some (.string ⟨#[]⟩) := Mm.cellOf HV_wf.out rfl
        have HFI : Hid (Calls Tryz.prog 15 #[.pointer (some ⟨pb, 0, none⟩), .agg #[.int .i64 2, .int .i64 mn, .float .f64 0, .string ⟨#[]⟩]] wf fun e w' => ∃ v1 v2, e = .returned (.tuple #[v1, v2]) ∧ Ix.Tw wf w' v1 v2 (Ix.findT s (Ix.vI mn)) (Ix.findL s (Ix.vI mn))) := Mm.hid (ifind_any HQ_wf HK49.out.1 (Ix.vI mn) (HM.out.below HB_wf.out) HG3.out.1.1.inn)
        go_wp2_with fail
        refine HFI.out.mono ?_
        rintro e wg ⟨vF, vFL, rfl, hT⟩
        obtain ⟨qF, cF, eF, IF⟩ := hT.o1.nin
        obtain ⟨nF, hnF⟩ : ∃ n, n = (List.map (fun n : Nat => (n : Int)) (Ix.findT s (Ix.vI mn))).length := ⟨_, rfl⟩
        rw [← hnF] at eF
        subst eF
        have HnF := Mm.hid hnF
        have HIF_wg := Mm.hid IF
        have HV_wg : Hid (wg.heap[gv]? = some (.cells #[(.int .i64 2), (.int .i64 mn), (.float .f64 0), (.string ⟨#[]⟩), (.int .i64 2), (.int .i64 md), (.float .f64 0), (.string ⟨#[]⟩), (.int .i64 2), (.int .i64 mx), (.float .f64 0), (.string ⟨#[]⟩)] 66 (0, 0))) := Mm.hid ((hT.bel.block _ (Mm.heapLt HV_wf.out)).trans HV_wf.out)
        have HQ_wg := Mm.hid (HQ_wf.out.below hT.bel)
        have HB_wg : Hid (Below W.heap.size W wg) := Mm.hid (Vl.btr HB_wf.out hT.bel)
        clear hnF IF hT HFI HV_wf HQ_wf HB_wf
        clear e0 e1 e2 e3 e4 e5 e6 e7 e8 e9 e10 e11
        have e0 : wg.cell? ⟨gv, 0, none⟩ = some (.int .i64 2) := Mm.cellOf HV_wg.out rfl
        have e1 : wg.cell? ⟨gv, 1, none⟩ = some (.int .i64 mn) := Mm.cellOf HV_wg.out rfl
        have e2 : wg.cell? ⟨gv, 2, none⟩ = some (.float .f64 0) := Mm.cellOf HV_wg.out rfl
        have e3 : wg.cell? ⟨gv, 3, none⟩ = some (.string ⟨#[]⟩) := Mm.cellOf HV_wg.out rfl
        have e4 : wg.cell? ⟨gv, 4, none⟩ = some (.int .i64 2) := Mm.cellOf HV_wg.out rfl
        have e5 : wg.cell? ⟨gv, 5, none⟩ = some (.int .i64 md) := Mm.cellOf HV_wg.out rfl
        have e6 : wg.cell? ⟨gv, 6, none⟩ = some (.float .f64 0) := Mm.cellOf HV_wg.out rfl
        have e7 : wg.cell? ⟨gv, 7, none⟩ = some (.string ⟨#[]⟩) := Mm.cellOf HV_wg.out rfl
        have e8 : wg.cell? ⟨gv, 8, none⟩ = some (.int .i64 2) := Mm.cellOf HV_wg.out rfl
        have e9 : wg.cell? ⟨gv, 9, none⟩ = some (.int .i64 mx) := Mm.cellOf HV_wg.out rfl
        have e10 : wg.cell? ⟨gv, 10, none⟩ = some (.float .f64 0) := Mm.cellOf HV_wg.out rfl
        have e11 : wg.cell? ⟨gv, 11, none⟩ = some (.string ⟨#[]⟩) := Mm.cellOf HV_wg.out rfl
        have hwm : wrap64 (mn + 1) = mn + 1 := Ix.wrap_of HW1.out
        have HFR : Hid (Calls Tryz.prog 17 #[.pointer (some ⟨pb, 0, none⟩), .agg #[.int .i64 2, .int .i64 mn, .float .f64 0, .string ⟨#[]⟩], .agg #[.int .i64 2, .int .i64 (mn + 1), .float .f64 0, .string ⟨#[]⟩]] wg fun e w' => ∃ v1 v2, e = .returned (.tuple #[v1, v2]) ∧ Ix.Tw wg w' v1 v2 (Ix.rangeT s (Ix.vI mn) (Ix.vI (mn + 1))) (Ix.rangeL s (Ix.vI mn) (Ix.vI (mn + 1)))) := Mm.hid (irange_any HQ_wg HK49.out.1 (Ix.vI mn) (Ix.vI (mn + 1)) (HM.out.below HB_wg.out) HG3.out.1.1.inn HG3.out.2.inn)
        go_wp2_with fail
        refine HFR.out.mono ?_
        rintro e wh ⟨vR, vRL, rfl, hT⟩
        obtain ⟨qR, cR, eR, IR⟩ := hT.o1.nin
        obtain ⟨nR, hnR⟩ : ∃ n, n = (List.map (fun n : Nat => (n : Int)) (Ix.rangeT s (Ix.vI mn) (Ix.vI (mn + 1)))).length := ⟨_, rfl⟩
        rw [← hnR] at eR
        subst eR
        have HnR := Mm.hid hnR
        have HIR := Mm.hid IR
        have HIF := Mm.hid (HIF_wg.out.below hT.bel)
        have HB_wh : Hid (Below W.heap.size W wh) := Mm.hid (Vl.btr HB_wg.out hT.bel)
        clear hnR IR hT HFR HIF_wg HV_wg HQ_wg HB_wg hwm
        clear e0 e1 e2 e3 e4 e5 e6 e7 e8 e9 e10 e11
        have hix := ints_gen (List.map (fun n : Nat => (n : Int)) (Ix.findT s (Ix.vI mn))) (List.map (fun n : Nat => (n : Int)) (Ix.rangeT s (Ix.vI mn) (Ix.vI (mn + 1)))) qF qR nF nR cF cR wh HIF HIR HnF HnR (by rw [List.length_map, HP.out.2]; have := HK49.out.2 (Ix.vI mn) (Ix.vI (mn + 1)); omega)
        rw [decide_eq_true (show List.map (fun n : Nat => (n : Int)) (Ix.findT s (Ix.vI mn)) = List.map (fun n : Nat => (n : Int)) (Ix.rangeT s (Ix.vI mn) (Ix.vI (mn + 1))) by rw [HP.out.2])] at hix
        have HIX := Mm.hid hix
        clear hix
        go_wp2_with fail
        refine HIX.out.mono ?_
        rintro e wi ⟨rfl, hbi⟩
        have HB_wi : Hid (Below W.heap.size W wi) := Mm.hid (Vl.btr HB_wh.out hbi)
        clear HIX hbi HB_wh
        go_wp2_with fail
        refine (wakesI_any _ (HM.out.below HB_wi.out)).mono ?_
        rintro e wk ⟨rfl, hb⟩
        have HBK := Mm.hid (Vl.btr HB_wi.out hb)
        clear hb
        go_wp2_with fail
        go_ret
        exact ⟨rfl, HBK.out⟩
end Go.Proofs.YtjnaafgiokdcbaaGreatDoor
