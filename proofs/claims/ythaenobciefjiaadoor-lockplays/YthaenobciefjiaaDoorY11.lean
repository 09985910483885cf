/- The reference's Release walked. -/
import Derived.Test.YthaenobciefjiaaDoorYB
import Derived.Test.YthaenobciefjiaaDoorYC
import Derived.WalkMore
namespace Go.Proofs.YthaenobciefjiaaDoor
open Go.RowKit Go.Maps Go.ChangeMaps Go.MapKept

set_option maxRecDepth 100000 in
set_option maxHeartbeats 40000000 in
theorem refRelease_any (X : List Nat) (W : World) (T : Nat) (r : Lk.Rt) (x : Int) (hR : Hid (Lk.Rm X W T r)) (hX : Hid (∀ b ∈ X, b < W.heap.size)) (hn : r.has.length + r.qu.length ≤ 800) (hok : Hid ((∀ y ∈ r.has, y.ok) ∧ ∀ y ∈ r.qu, y.ok)) :
    Calls Tryd.prog 16 #[.pointer (some ⟨T, 0, none⟩), .int .i64 x] W fun e w' => ∃ (p : Option Addr) (c : Nat) (l : List Int), e = .returned (.slice p l.length c) ∧ Lk.Sl w' p l.length c (Lk.numsV l) ∧ (∀ L : List Lk.Bytes, Rs.Up (· ≤ ·) L → (∀ n, n ∈ L ↔ ∃ y ∈ r.has ++ r.qu, y.ho = x ∧ y.nm = n) → l = (Lk.relT L (Lk.leaveT r x)).2 ∧ Lk.Ends X W w' T (Lk.relT L (Lk.leaveT r x)).1) := by
  have HN := Lk.hid hn
  obtain ⟨iH, HIH⟩ : ∃ i, Hid (Tryd.prog.info? 71 = some i ∧ i.zero = some (.agg #[.string ⟨#[]⟩, .int .i64 0, .int .i64 0]) ∧ i.size = 3 ∧ i.bytes = 32) := ⟨_, Tryd.type71, rfl, rfl, rfl⟩
  obtain ⟨iS, HIS⟩ : ∃ i, Hid (Tryd.prog.info? 9 = some i ∧ i.zero = some (.string ⟨#[]⟩) ∧ i.size = 1 ∧ i.bytes = 16) := ⟨_, Tryd.type9, rfl, rfl, rfl⟩
  obtain ⟨i0, HI0⟩ : ∃ i, Hid (Tryd.prog.info? 3 = some i ∧ i.zero = some (.int .i64 0) ∧ i.size = 1 ∧ i.bytes = 8) := ⟨_, Tryd.type3, rfl, rfl, rfl⟩
  go_enter Tryd.func16, Tryd.ntmps16
  go_wp2_with (first | (go_at_call 25; refine (refNames_any X _ T r hR (by have := HN.out; omega)).mono ?_; rintro e w1 ⟨pn, cn, N, rfl, n1, n2, n3, n4, n5⟩; have HNM := Lk.hid (And.intro n1 (And.intro n2 (And.intro n3 n4))); have HB1 := Lk.hid n5; clear n1 n2 n3 n4 n5))
  obtain ⟨nh, hnh⟩ : ∃ nh, nh = r.has.length := ⟨_, rfl⟩
  obtain ⟨nq, hnq⟩ : ∃ nq, nq = r.qu.length := ⟨_, rfl⟩
  have HNhas := Lk.hid hnh
  have HNqu := Lk.hid hnq
  have hnh2 : nh ≤ 800 := by omega
  have hnq2 : nq ≤ 800 := by omega
  have HLS := Lk.hid (Lk.Lp.start w1 r.has x)
  have HT0 : Hid (([] : List Lk.Bytes).length ≤ 1000) := Lk.hid (by simp)
  clear hnh hnq hn
  go_loopw [6, 8, 9] (fun v vt vi wr => ∃ (i : Nat) (H : List Lk.Hd) (Tl : List Lk.Bytes), i ≤ nh ∧ vi = .int .i64 (i : Int) ∧ Hid (Lk.Lp w1 wr r.has x i (.slice none 0 0) [] [] v H vt Tl)) (fun _ _ vi _ => nh - (RowKit.intOf vi).toNat)
  case atStart => exact ⟨0, [], [], by omega, rfl, HLS.out⟩
  case round =>
    clear HLS
    obtain ⟨i, H, Tl, hi, rfl, HL⟩ := hrel
    have HRW := Lk.hid (hR.out.below (Lk.belTr HB1.out HL.out.bel))
    obtain ⟨pa, ca, hc, hin, -, -, ho⟩ := HRW.out.has
    rw [← HNhas.out] at hc
    by_cases hlt : i < nh
    · obtain ⟨y, hy⟩ : ∃ y, r.has[i]? = some y := ⟨_, List.getElem?_eq_getElem (by rw [← HNhas.out]; exact hlt)⟩
      obtain ⟨b, o, rfl, hlb, c0, c1, c2⟩ := hin.at hy
      obtain rfl := ho b o rfl
      rw [Nat.zero_add] at c0 c1 c2
      have HY := Lk.hid hy
      have hlH : H.length ≤ 1000 := by rw [HL.out.eH]; exact Nat.le_trans (List.length_filter_le _ _) (by rw [List.length_take]; omega)
      have hlT : Tl.length ≤ 2000 := by rw [HL.out.eT, List.length_append, List.length_map]; have h1 := List.length_filter_le (fun y : Lk.Hd => y.ho == x) (r.has.take i); rw [List.length_take] at h1; have h2 := HT0.out; omega
      have g1 : (0 : Int) ≤ (i : Int) := by omega
      have g2 : (i : Int) < (nh : Int) := by omega
      have HSZ : Hid (w1.heap.size ≤ wr.heap.size) := Lk.hid HL.out.bel.size
      clear hin hy hlb ho
      cases ht : (y.ho == x)
      · go_wp2_with (first | (at_builtin; refine wpList_append_own_at _ rfl _ _ 26 rfl w1.heap.size 71 iH (.agg #[.string ⟨#[]⟩, .int .i64 0, .int .i64 0]) 3 32 Tryd.underlying26 HIH.out.1 HIH.out.2.1 HIH.out.2.2.1 HIH.out.2.2.2 rfl (by decide) _ _ _ rfl (Lk.ownBelow HL.out.row (Lk.belAl (Below.refl _ _) _)) ⟨wr.heap.size, 0, none⟩ 1 1 (Lk.cellsH [y]) rfl rfl (Lk.cells3 _ y _) (Lk.cellsH_one [y]) (by unfold maxLen; omega) (by omega) (by have := HSZ.out; simp; omega) ?_; intro v' w2 hown' hgrow hnil hloc; have HLN := Lk.hid (HL.out.stay HY.out ht hown' hgrow hloc); clear hown' hgrow hnil hloc) | go_in)
        exact ⟨⟨i + 1, _, _, by omega, by go_num, HLN.out⟩, by simp [RowKit.intOf]; omega⟩
      · go_wp2_with (first | (at_builtin; refine wpList_append_own_at _ rfl _ _ 46 rfl w1.heap.size 9 iS (.string ⟨#[]⟩) 1 16 Tryd.underlying46 HIS.out.1 HIS.out.2.1 HIS.out.2.2.1 HIS.out.2.2.2 rfl (by decide) _ _ _ rfl (Lk.ownBelow HL.out.tow (Lk.belAl (Below.refl _ _) _)) ⟨wr.heap.size, 0, none⟩ 1 1 [Lk.str y.nm] rfl rfl (cell_one_new _ _ _) (Lk.strs_one [y.nm]) (by unfold maxLen; omega) (by omega) (by have := HSZ.out; simp; omega) ?_; intro v' w2 hown' hgrow hnil hloc; have HLN := Lk.hid (HL.out.touch HY.out ht hown' hgrow hloc); clear hown' hgrow hnil hloc) | go_in)
        exact ⟨⟨i + 1, _, _, by omega, by go_num, HLN.out⟩, by simp [RowKit.intOf]; omega⟩
    · obtain rfl : i = nh := by omega
      have HEH : Hid (H = r.has.filter (fun y => y.ho != x)) := Lk.hid (by rw [HL.out.eH, List.take_of_length_le (by rw [← HNhas.out]; exact Nat.le_refl _)])
      have HET : Hid (Tl = (r.has.filter (fun y => y.ho == x)).map (·.nm)) := Lk.hid (by rw [HL.out.eT, List.take_of_length_le (by rw [← HNhas.out]; exact Nat.le_refl _)]; rfl)
      have HT1 : Hid (Tl.length ≤ 1000) := Lk.hid (by rw [HET.out, List.length_map]; exact Nat.le_trans (List.length_filter_le _ _) (by rw [← HNhas.out]; omega))
      have HLB := Lk.hid (HL.out.turn (L2 := r.qu))
      clear hin ho HL HT0
      go_wp2_with fail
      clear hc
      go_loopw [7, 8, 10] (fun v vt vi wr => ∃ (i : Nat) (Hq : List Lk.Hd) (Tq : List Lk.Bytes), i ≤ nq ∧ vi = .int .i64 (i : Int) ∧ Hid (Lk.Lp w1 wr r.qu x i u6 H Tl v Hq vt Tq)) (fun _ _ vi _ => nq - (RowKit.intOf vi).toNat)
      case atStart => exact ⟨0, [], Tl, by omega, rfl, HLB.out⟩
      case round =>
        clear HLB
        obtain ⟨i, Hq, Tq, hi, rfl, HL⟩ := hrel
        have HRW := Lk.hid (hR.out.below (Lk.belTr HB1.out HL.out.bel))
        obtain ⟨pb, cb, hc, hin, -, -, ho⟩ := HRW.out.qu
        rw [← HNqu.out] at hc
        by_cases hlt : i < nq
        · obtain ⟨y, hy⟩ : ∃ y, r.qu[i]? = some y := ⟨_, List.getElem?_eq_getElem (by rw [← HNqu.out]; exact hlt)⟩
          obtain ⟨b, o, rfl, hlb, c0, c1, c2⟩ := hin.at hy
          obtain rfl := ho b o rfl
          rw [Nat.zero_add] at c0 c1 c2
          have HY := Lk.hid hy
          have hlH : Hq.length ≤ 1000 := by rw [HL.out.eH]; exact Nat.le_trans (List.length_filter_le _ _) (by rw [List.length_take]; omega)
          have hlT : Tq.length ≤ 2000 := by rw [HL.out.eT, List.length_append, List.length_map]; have h1 := List.length_filter_le (fun y : Lk.Hd => y.ho == x) (r.qu.take i); rw [List.length_take] at h1; have h2 := HT1.out; omega
          have g1 : (0 : Int) ≤ (i : Int) := by omega
          have g2 : (i : Int) < (nq : Int) := by omega
          have HSZ : Hid (w1.heap.size ≤ wr.heap.size) := Lk.hid HL.out.bel.size
          clear hin hy hlb ho
          cases ht : (y.ho == x)
          · go_wp2_with (first | (at_builtin; refine wpList_append_own_at _ rfl _ _ 26 rfl w1.heap.size 71 iH (.agg #[.string ⟨#[]⟩, .int .i64 0, .int .i64 0]) 3 32 Tryd.underlying26 HIH.out.1 HIH.out.2.1 HIH.out.2.2.1 HIH.out.2.2.2 rfl (by decide) _ _ _ rfl (Lk.ownBelow HL.out.row (Lk.belAl (Below.refl _ _) _)) ⟨wr.heap.size, 0, none⟩ 1 1 (Lk.cellsH [y]) rfl rfl (Lk.cells3 _ y _) (Lk.cellsH_one [y]) (by unfold maxLen; omega) (by omega) (by have := HSZ.out; simp; omega) ?_; intro v' w2 hown' hgrow hnil hloc; have HLN := Lk.hid (HL.out.stay HY.out ht hown' hgrow hloc); clear hown' hgrow hnil hloc) | go_in)
            exact ⟨⟨i + 1, _, _, by omega, by go_num, HLN.out⟩, by simp [RowKit.intOf]; omega⟩
          · go_wp2_with (first | (at_builtin; refine wpList_append_own_at _ rfl _ _ 46 rfl w1.heap.size 9 iS (.string ⟨#[]⟩) 1 16 Tryd.underlying46 HIS.out.1 HIS.out.2.1 HIS.out.2.2.1 HIS.out.2.2.2 rfl (by decide) _ _ _ rfl (Lk.ownBelow HL.out.tow (Lk.belAl (Below.refl _ _) _)) ⟨wr.heap.size, 0, none⟩ 1 1 [Lk.str y.nm] rfl rfl (cell_one_new _ _ _) (Lk.strs_one [y.nm]) (by unfold maxLen; omega) (by omega) (by have := HSZ.out; simp; omega) ?_; intro v' w2 hown' hgrow hnil hloc; have HLN := Lk.hid (HL.out.touch HY.out ht hown' hgrow hloc); clear hown' hgrow hnil hloc) | go_in)
            exact ⟨⟨i + 1, _, _, by omega, by go_num, HLN.out⟩, by simp [RowKit.intOf]; omega⟩
        · obtain rfl : i = nq := by omega
          have HEq : Hid (Hq = r.qu.filter (fun y => y.ho != x)) := Lk.hid (by rw [HL.out.eH, List.take_of_length_le (by rw [← HNqu.out]; exact Nat.le_refl _)])
          have HETq : Hid (Tq = (r.has.filter (fun y => y.ho == x)).map (·.nm) ++ (r.qu.filter (fun y => y.ho == x)).map (·.nm)) := Lk.hid (by rw [HL.out.eT, List.take_of_length_le (by rw [← HNqu.out]; exact Nat.le_refl _), HET.out])
          obtain ⟨ph, ch, e6, -⟩ := Lk.Sl.own HL.out.row0
          obtain ⟨pw, cw, e7, -⟩ := Lk.Sl.own HL.out.row
          obtain ⟨pt, ct, e8, -⟩ := Lk.Sl.own HL.out.tow
          subst e6 e7 e8
          have hbw := Lk.belTr HB1.out HL.out.bel
          obtain ⟨pa, ca, hc0, -, -, -, -⟩ := HRW.out.has
          have f0 := hR.out.frz hbw 0
          have f1 := hR.out.frz hbw 1
          have HE := Lk.hid (Lk.Ends.store2 hR.out hbw HL.out.row0 HL.out.row HB1.out.size)
          have HTOW := Lk.hid (And.intro HL.out.bel HL.out.tow)
          obtain ⟨nT, hnT⟩ : ∃ nT, nT = Tq.length := ⟨_, rfl⟩
          rw [← hnT]
          have HNT := Lk.hid hnT
          have hnT2 : nT ≤ 2000 := by
            have h1 := List.length_filter_le (fun y : Lk.Hd => y.ho == x) r.has
            have h2 := List.length_filter_le (fun y : Lk.Hd => y.ho == x) r.qu
            have h3 := HN.out
            rw [hnT, HETq.out, List.length_append, List.length_map, List.length_map]; omega
          clear HL hbw hin ho hnT
          go_wp2_with fail
          clear f0 f1 hc hc0
          obtain ⟨Y, k1, k2, k3⟩ := HE.out
          have HLC := Lk.hid (Lk.Lc.start (Y := Y) (r := ⟨H, Hq⟩) hR.out hX.out HB1.out HTOW.out.1 HNM.out.1 HTOW.out.2 k1 k2 k3 rfl)
          clear HE k1 k2 k3 HTOW
          generalize (wr.setCell ⟨T, 0, none⟩ (.slice ph H.length ch)).setCell ⟨T, 1, none⟩ (.slice pw Hq.length cw) = w3 at HLC ⊢
          obtain ⟨nN, hnN⟩ : ∃ nN, nN = N.length := ⟨_, rfl⟩
          rw [← hnN]
          have HNN := Lk.hid hnN
          have hnN2 : nN ≤ 2000 := by rw [hnN]; exact HNM.out.2.2.2
          obtain ⟨fin, hfin⟩ : ∃ fin, fin = Lk.relT (N.filter (fun n => Tq.contains n)) ⟨H, Hq⟩ := ⟨_, rfl⟩
          have HF0 : Hid (Lk.Fin (fun n => Tq.contains n) N 0 ⟨H, Hq⟩ [] fin) := Lk.hid ⟨by rw [hfin]; rfl, by rw [hfin]; rfl, by
            have h1 := List.length_filter_le (fun y : Lk.Hd => y.ho != x) r.has
            have h2 := List.length_filter_le (fun y : Lk.Hd => y.ho != x) r.qu
            have h3 := HN.out
            rw [HEH.out, HEq.out]; dsimp only; omega, by
            have h2 := List.length_filter_le (fun y : Lk.Hd => y.ho != x) r.qu
            have h3 := HN.out
            rw [HEq.out]; dsimp only; simp only [List.length_nil]; omega, fun z hz => hok.out.1 z (by rw [HEH.out] at hz; exact (List.mem_filter.1 hz).1), fun z hz => hok.out.2 z (by rw [HEq.out] at hz; exact (List.mem_filter.1 hz).1)⟩
          have HFE := Lk.hid hfin
          clear hnN hfin
          go_loopw [11, 12] (fun vo vk wr => ∃ (k : Nat) (Y : List Nat) (r' : Lk.Rt) (out : List Int), k ≤ nN ∧ vk = .int .i64 (k : Int) ∧ Hid (Lk.Lc X Y W wr T r' pn cn N pt ct Tq vo out) ∧ Hid (Lk.Fin (fun n => Tq.contains n) N k r' out fin)) (fun _ vk _ => nN - (RowKit.intOf vk).toNat)
          case atStart => exact ⟨0, Y, _, [], by omega, rfl, HLC.out, HF0.out⟩
          case round =>
            clear HLC HF0
            obtain ⟨k, Y, r', out, hk, rfl, HC, HF⟩ := hrel
            by_cases hkn : k < nN
            · obtain ⟨nm, hnm⟩ : ∃ nm, N[k]? = some nm := ⟨_, List.getElem?_eq_getElem (by rw [← HNN.out]; exact hkn)⟩
              have HNMK := Lk.hid hnm
              obtain ⟨bn, rfl, hlbn, cn0⟩ := HC.out.nm.txt hnm
              have q1 : (0 : Int) ≤ (k : Int) := by omega
              have q2 : (k : Int) < (nN : Int) := by omega
              have HCN := Lk.hid (And.intro hlbn cn0)
              clear hnm hlbn cn0
              go_wp2_with fail
              go_loopw [13, 14] (fun vm vi wi => ∃ i : Nat, i ≤ nT ∧ vi = .int .i64 (i : Int) ∧ vm = .bool ((Tq.take i).contains nm) ∧ Hid (Below wr.heap.size wr wi)) (fun _ vi _ => nT - (RowKit.intOf vi).toNat)
              case atStart => exact ⟨0, by omega, rfl, rfl, Below.refl _ _⟩
              case round =>
                obtain ⟨i, hi, rfl, rfl, HB⟩ := hrel
                have HCB := Lk.hid (HC.out.below HB.out)
                by_cases hlt : i < nT
                · obtain ⟨a, ha⟩ : ∃ a, Tq[i]? = some a := ⟨_, List.getElem?_eq_getElem (by rw [← HNT.out]; exact hlt)⟩
                  obtain ⟨bt, rfl, hlbt, ct0⟩ := HCB.out.tl.txt ha
                  have g1 : (0 : Int) ≤ (i : Int) := by omega
                  have g2 : (i : Int) < (nT : Int) := by omega
                  have hnx : (Tq.take (i + 1)).contains nm = ((Tq.take i).contains nm || (a == nm)) := by
                    rw [List.take_add_one, ha, Bool.eq_iff_iff, Bool.or_eq_true, List.contains_iff_mem, List.contains_iff_mem, List.mem_append]
                    show (_ ∨ nm ∈ [a]) ↔ _
                    rw [List.mem_singleton, beq_iff_eq]
                    exact ⟨Or.imp_right Eq.symm, Or.imp_right Eq.symm⟩
                  have HS : Hid (∀ w', Below wr.heap.size wr w' → w'.cell? ⟨bt, i, none⟩ = some (Lk.str a) ∧ w'.cell? ⟨bn, k, none⟩ = some (Lk.str nm)) := Lk.hid (fun w' hb => ⟨(Lk.belAt hb _ hlbt).trans ct0, (Lk.belAt (Lk.belTr HB.out hb) _ HCN.out.1).trans HCN.out.2⟩)
                  have HBD : Hid (Below _ _ wr.drew) := Lk.hid (Lk.belTr HB.out (Below.refl _ _).drew)
                  clear ha hlbt ct0
                  cases hm : (Tq.take i).contains nm
                  · rw [hm, Bool.false_or] at hnx
                    cases he : (a == nm)
                    · rw [he] at hnx
                      go_wp2_with fail
                      go_region_held3 (fun w' => w'.cell? ⟨bt, i, none⟩ = some (Lk.str a) ∧ w'.cell? ⟨bn, k, none⟩ = some (Lk.str nm)) (exact HS.out _ (Below.refl _ _).drew) (fail)
                      go_wp2_with fail
                      exact ⟨⟨i + 1, by omega, by go_num, by rw [hnx], HBD⟩, by simp [RowKit.intOf]; omega⟩
                    · rw [he] at hnx
                      go_wp2_with fail
                      go_region_held3 (fun w' => w'.cell? ⟨bt, i, none⟩ = some (Lk.str a) ∧ w'.cell? ⟨bn, k, none⟩ = some (Lk.str nm)) (exact HS.out _ (Below.refl _ _).drew) (fail)
                      go_wp2_with fail
                      exact ⟨⟨i + 1, by omega, by go_num, by rw [hnx], HBD⟩, by simp [RowKit.intOf]; omega⟩
                  · rw [hm, Bool.true_or] at hnx
                    go_wp2_with fail
                    refine wp_region_held_drew (S := (fun w' => Below wr.heap.size wr w')) (by kernel_rfl) ((Below.refl _ _).drew) (fun hH => ?_)
                    refine wpAnyH_take (i := 0) (oi := ?om1q0) (v := ?vm1q0) ?him1q0 ?hsm1q0 ?hfm1q0 ?hrm1q0 ?hQm1q0 (Or.inl ⟨?hwm1q0, ?hym1q0⟩) ?hSm1q0 ?restm1q0
                    case him1q0 => (simp; rfl)
                    case hsm1q0 => kernel_rfl
                    case hfm1q0 => kernel_rfl
                    case hrm1q0 => kernel_rfl
                    case hQm1q0 => exact fun _ _ _ h => h
                    case hwm1q0 => rfl
                    case hym1q0 => (intro wq hSq; (try dsimp only at hSq); go_simp; (try with_reducible rfl))
                    case hSm1q0 => assumption
                    simp only [Act.put, List.setIfInBounds_toArray, List.set_cons_zero, List.set_cons_succ]
                    refine wpAnyH_take (i := 1) (oi := ?om2q1) (v := ?vm2q1) ?him2q1 ?hsm2q1 ?hfm2q1 ?hrm2q1 ?hQm2q1 (Or.inl ⟨?hwm2q1, ?hym2q1⟩) ?hSm2q1 ?restm2q1
                    case him2q1 => (simp; rfl)
                    case hsm2q1 => kernel_rfl
                    case hfm2q1 => kernel_rfl
                    case hrm2q1 => kernel_rfl
                    case hQm2q1 => exact fun _ _ _ h => h
                    case hwm2q1 => rfl
                    case hym2q1 => (intro wq hSq; (try dsimp only at hSq); go_simp; (try with_reducible rfl))
                    case hSm2q1 => assumption
                    simp only [Act.put, List.setIfInBounds_toArray, List.set_cons_zero, List.set_cons_succ]
                    refine wpAnyH_take (i := 2) (oi := ?om3q2) (v := undef) ?him3q2 ?hsm3q2 ?hfm3q2 ?hrm3q2 ?hQm3q2 (Or.inr ⟨?hwm3q2, rfl⟩) ?hSm3q2 ?restm3q2
                    case him3q2 => (simp; rfl)
                    case hsm3q2 => kernel_rfl
                    case hfm3q2 => kernel_rfl
                    case hrm3q2 => kernel_rfl
                    case hQm3q2 => exact fun _ _ _ h => h
                    case hwm3q2 => rfl
                    case hSm3q2 => assumption
                    simp only [Act.put, List.setIfInBounds_toArray, List.set_cons_zero, List.set_cons_succ]
                    refine wpAnyH_take (i := 3) (oi := ?om4q3) (v := undef) ?him4q3 ?hsm4q3 ?hfm4q3 ?hrm4q3 ?hQm4q3 (Or.inr ⟨?hwm4q3, rfl⟩) ?hSm4q3 ?restm4q3
                    case him4q3 => (simp; rfl)
                    case hsm4q3 => kernel_rfl
                    case hfm4q3 => kernel_rfl
                    case hrm4q3 => kernel_rfl
                    case hQm4q3 => exact fun _ _ _ h => h
                    case hwm4q3 => rfl
                    case hSm4q3 => assumption
                    simp only [Act.put, List.setIfInBounds_toArray, List.set_cons_zero, List.set_cons_succ]
                    refine wpAnyH_take (i := 4) (oi := ?om5q4) (v := undef) ?him5q4 ?hsm5q4 ?hfm5q4 ?hrm5q4 ?hQm5q4 (Or.inr ⟨?hwm5q4, rfl⟩) ?hSm5q4 ?restm5q4
                    case him5q4 => (simp; rfl)
                    case hsm5q4 => kernel_rfl
                    case hfm5q4 => kernel_rfl
                    case hrm5q4 => kernel_rfl
                    case hQm5q4 => exact fun _ _ _ h => h
                    case hwm5q4 => rfl
                    case hSm5q4 => assumption
                    simp only [Act.put, List.setIfInBounds_toArray, List.set_cons_zero, List.set_cons_succ]
                    refine wpAnyH_take (i := 5) (oi := ?om6q5) (v := undef) ?him6q5 ?hsm6q5 ?hfm6q5 ?hrm6q5 ?hQm6q5 (Or.inr ⟨?hwm6q5, rfl⟩) ?hSm6q5 ?restm6q5
                    case him6q5 => (simp; rfl)
                    case hsm6q5 => kernel_rfl
                    case hfm6q5 => kernel_rfl
                    case hrm6q5 => kernel_rfl
                    case hQm6q5 => exact fun _ _ _ h => h
                    case hwm6q5 => rfl
                    case hSm6q5 => assumption
                    simp only [Act.put, List.setIfInBounds_toArray, List.set_cons_zero, List.set_cons_succ]
                    refine wpAnyH_take (i := 6) (oi := ?om7q6) (v := undef) ?him7q6 ?hsm7q6 ?hfm7q6 ?hrm7q6 ?hQm7q6 (Or.inr ⟨?hwm7q6, rfl⟩) ?hSm7q6 ?restm7q6
                    case him7q6 => (simp; rfl)
                    case hsm7q6 => kernel_rfl
                    case hfm7q6 => kernel_rfl
                    case hrm7q6 => kernel_rfl
                    case hQm7q6 => exact fun _ _ _ h => h
                    case hwm7q6 => rfl
                    case hSm7q6 => assumption
                    simp only [Act.put, List.setIfInBounds_toArray, List.set_cons_zero, List.set_cons_succ]
                    refine wpAnyH_take (i := 7) (oi := ?om8q7) (v := undef) ?him8q7 ?hsm8q7 ?hfm8q7 ?hrm8q7 ?hQm8q7 (Or.inr ⟨?hwm8q7, rfl⟩) ?hSm8q7 ?restm8q7
                    case him8q7 => (simp; rfl)
                    case hsm8q7 => kernel_rfl
                    case hfm8q7 => kernel_rfl
                    case hrm8q7 => kernel_rfl
                    case hQm8q7 => exact fun _ _ _ h => h
                    case hwm8q7 => rfl
                    case hSm8q7 => assumption
                    simp only [Act.put, List.setIfInBounds_toArray, List.set_cons_zero, List.set_cons_succ]
                    refine wpAnyH_take (i := 8) (oi := ?om9q8) (v := undef) ?him9q8 ?hsm9q8 ?hfm9q8 ?hrm9q8 ?hQm9q8 (Or.inr ⟨?hwm9q8, rfl⟩) ?hSm9q8 ?restm9q8
                    case him9q8 => (simp; rfl)
                    case hsm9q8 => kernel_rfl
                    case hfm9q8 => kernel_rfl
                    case hrm9q8 => kernel_rfl
                    case hQm9q8 => exact fun _ _ _ h => h
                    case hwm9q8 => rfl
                    case hSm9q8 => assumption
                    simp only [Act.put, List.setIfInBounds_toArray, List.set_cons_zero, List.set_cons_succ]
                    refine wpAnyH_take (i := 9) (oi := ?om10q9) (v := undef) ?him10q9 ?hsm10q9 ?hfm10q9 ?hrm10q9 ?hQm10q9 (Or.inr ⟨?hwm10q9, rfl⟩) ?hSm10q9 ?restm10q9
                    case him10q9 => (simp; rfl)
                    case hsm10q9 => kernel_rfl
                    case hfm10q9 => kernel_rfl
                    case hrm10q9 => kernel_rfl
                    case hQm10q9 => exact fun _ _ _ h => h
                    case hwm10q9 => rfl
                    case hSm10q9 => assumption
                    simp only [Act.put, List.setIfInBounds_toArray, List.set_cons_zero, List.set_cons_succ]
                    refine wpAnyH_take (i := 10) (oi := ?om11q10) (v := undef) ?him11q10 ?hsm11q10 ?hfm11q10 ?hrm11q10 ?hQm11q10 (Or.inr ⟨?hwm11q10, rfl⟩) ?hSm11q10 ?restm11q10
                    case him11q10 => (simp; rfl)
                    case hsm11q10 => kernel_rfl
                    case hfm11q10 => kernel_rfl
                    case hrm11q10 => kernel_rfl
                    case hQm11q10 => exact fun _ _ _ h => h
                    case hwm11q10 => rfl
                    case hSm11q10 => assumption
                    simp only [Act.put, List.setIfInBounds_toArray, List.set_cons_zero, List.set_cons_succ]
                    refine wpAnyH_take (i := 11) (oi := ?om12q11) (v := ?vm12q11) ?him12q11 ?hsm12q11 ?hfm12q11 ?hrm12q11 ?hQm12q11 (Or.inl ⟨?hwm12q11, ?hym12q11⟩) ?hSm12q11 ?restm12q11
                    case him12q11 => (simp; rfl)
                    case hsm12q11 => kernel_rfl
                    case hfm12q11 => kernel_rfl
                    case hrm12q11 => kernel_rfl
                    case hQm12q11 => exact fun _ _ _ h => h
                    case hwm12q11 => rfl
                    case hym12q11 => (intro wq hSq; (try dsimp only at hSq); go_simp; (try with_reducible rfl))
                    case hSm12q11 => assumption
                    simp only [Act.put, List.setIfInBounds_toArray, List.set_cons_zero, List.set_cons_succ]
                    refine wpAnyH_take (i := 12) (oi := ?om13q12) (v := ?vm13q12) ?him13q12 ?hsm13q12 ?hfm13q12 ?hrm13q12 ?hQm13q12 (Or.inl ⟨?hwm13q12, ?hym13q12⟩) ?hSm13q12 ?restm13q12
                    case him13q12 => (simp; rfl)
                    case hsm13q12 => kernel_rfl
                    case hfm13q12 => kernel_rfl
                    case hrm13q12 => kernel_rfl
                    case hQm13q12 => exact fun _ _ _ h => h
                    case hwm13q12 => rfl
                    case hym13q12 => (intro wq hSq; (try dsimp only at hSq); go_simp; (try with_reducible rfl))
                    case hSm13q12 => assumption
                    simp only [Act.put, List.setIfInBounds_toArray, List.set_cons_zero, List.set_cons_succ]
                    refine wpAnyH_done (by kernel_rfl) ?_ _
                    go_wp2_with fail
                    exact ⟨⟨i + 1, by omega, by go_num, by rw [hnx], HBD⟩, by simp [RowKit.intOf]; omega⟩
                · have ei : Tq.take i = Tq := List.take_of_length_le (by rw [← HNT.out]; omega)
                  rw [ei]
                  cases hM : Tq.contains nm
                  · have HFS := Lk.hid (HF.out.skip HNMK.out hM)
                    have HWW := HCB
                    go_wp2_with fail
                    go_loopw [11, 15] (fun vo va wi => va = .int .i64 0 ∧ Hid (Lk.Lc X Y W wi T r' (some ⟨bn, 0, none⟩) cn N pt ct Tq vo out)) (fun _ _ _ => 0)
                    case atStart => exact ⟨rfl, HWW.out⟩
                    case round =>
                      obtain ⟨rfl, HQ⟩ := hrel
                      go_wp2_with fail
                      exact ⟨⟨k + 1, Y, r', out, by omega, by go_num, HQ.out, HFS.out⟩, by simp [RowKit.intOf]; omega⟩
                  · have HFE0 := Lk.hid (HF.out.enter HNMK.out hM)
                    have HWW : Hid (Lk.Lc X Y W wr T ⟨r'.has, [] ++ r'.qu⟩ (some ⟨bn, 0, none⟩) cn N pt ct Tq _ out) := Lk.hid HCB.out
                    clear HCB HB HC HF
                    go_wp2_with fail
                    go_loopw [11, 15] (fun vo va wi => ∃ (Y : List Nat) (has A B : List Lk.Hd) (out : List Int), va = .int .i64 (A.length : Int) ∧ Hid (Lk.Lc X Y W wi T ⟨has, A ++ B⟩ (some ⟨bn, 0, none⟩) cn N pt ct Tq vo out) ∧ Hid (Lk.FinE (fun n => Tq.contains n) N (k + 1) nm has A B out fin)) (fun _ va wi => Lk.quN T wi - (RowKit.intOf va).toNat)
                    case atStart => exact ⟨Y, r'.has, [], r'.qu, out, rfl, HWW.out, HFE0.out⟩
                    case round =>
                      clear HWW HFE0
                      obtain ⟨Y, has, A, B, out, rfl, HC, HF⟩ := hrel
                      have HQN : Hid (Lk.quN T wr = (A ++ B).length) := Lk.hid HC.out.rm.quN
                      obtain ⟨pb, cb, hcb, hin, hcap, hnil, ho⟩ := HC.out.rm.qu
                      dsimp only at hcb hin hcap hnil
                      obtain ⟨nA, hnA⟩ : ∃ nA, nA = A.length := ⟨_, rfl⟩
                      rw [← hnA]
                      have HNA := Lk.hid hnA
                      cases B with
                      | nil =>
                        rw [List.append_nil, ← hnA] at hcb
                        have HFL := Lk.hid HF.out.leave
                        have HCL : Hid (Lk.Lc X Y W wr T ⟨has, A⟩ (some ⟨bn, 0, none⟩) cn N pt ct Tq _ out) := Lk.hid (by have := HC.out; rw [List.append_nil] at this; exact this)
                        clear hin hcap hnil ho hnA
                        go_wp2_with fail
                        exact ⟨⟨k + 1, Y, _, out, by omega, by go_num, HCL.out, HFL.out⟩, by simp [RowKit.intOf]; omega⟩
                      | cons y B =>
                        obtain ⟨nq2, hnq2⟩ : ∃ nq2, nq2 = (A ++ y :: B).length := ⟨_, rfl⟩
                        rw [← hnq2] at hcb hcap hnil
                        have HNQ2 : Hid (nq2 = (A ++ y :: B).length ∧ nq2 = nA + 1 + B.length) := Lk.hid ⟨hnq2, by rw [hnq2, hnA]; simp; omega⟩
                        have hnq3 : nq2 ≤ 800 := by have := HF.out.l2; simp at this; have := HNQ2.out.2; omega
                        have hlA : nA < nq2 := by have := HNQ2.out.2; omega
                        have hy : (A ++ y :: B)[nA]? = some y := by rw [hnA]; simp
                        obtain ⟨b, o, rfl, hlb, c0, c1, c2⟩ := hin.at hy
                        obtain rfl := ho b o rfl
                        rw [Nat.zero_add] at c0 c1 c2
                        have HIN := Lk.hid hin
                        have HCAP := Lk.hid hcap
                        have HCB2 := Lk.hid hcb
                        have hE := Lk.str_eq y.nm nm
                        have g1 : (0 : Int) ≤ (nA : Int) := by omega
                        have g2 : (nA : Int) < (nq2 : Int) := by omega
                        have HB1b : Hid (Below wr.heap.size wr (wr.alloc (.cells #[Lk.str y.nm, .int .i64 y.ho, .int .i64 y.md] 71))) := Lk.hid (Lk.belAl (Below.refl _ _) _)
                        have HX1b : Hid (Lk.Box3 (wr.alloc (.cells #[Lk.str y.nm, .int .i64 y.ho, .int .i64 y.md] 71)) wr.heap.size y) := Lk.hid (Lk.Box3.new wr y)
                        have HCNW : Hid (bn < wr.heap.size ∧ wr.cell? ⟨bn, k, none⟩ = some (Lk.str nm)) := Lk.hid (by
                          obtain ⟨b', e1, h1, h2⟩ := HC.out.nm.txt HNMK.out
                          injection e1 with e1
                          injection e1 with e1
                          subst e1
                          exact ⟨h1, h2⟩)
                        have HS9 : Hid (∀ w', Below ((wr.alloc (.cells #[Lk.str y.nm, .int .i64 y.ho, .int .i64 y.md] 71))).heap.size (wr.alloc (.cells #[Lk.str y.nm, .int .i64 y.ho, .int .i64 y.md] 71)) w' → w'.cell? ⟨wr.heap.size, 0, none⟩ = some (Lk.str y.nm) ∧ w'.cell? ⟨wr.heap.size, 1, none⟩ = some (.int .i64 y.ho) ∧ w'.cell? ⟨wr.heap.size, 2, none⟩ = some (.int .i64 y.md) ∧ w'.cell? ⟨bn, k, none⟩ = some (Lk.str nm)) := Lk.hid (fun w' hb => by
                          obtain ⟨s0, s1, s2⟩ := Lk.boxS (HX1b.out.below hb)
                          exact ⟨s0, s1, s2, (Lk.belAt (Lk.belTr HB1b.out hb) _ HCNW.out.1).trans HCNW.out.2⟩)
                        clear hin hcap hnil ho hnA hnq2 hy hlb
                        by_cases hs : y.nm = nm
                        · have hs2 : (y.nm == nm) = true := by simpa using hs
                          have hs3 : (y.nm != nm) = false := by rw [bne, hs2]; rfl
                          have HR1 : Hid (Lk.Rm (Y ++ X) ((wr.alloc (.cells #[Lk.str y.nm, .int .i64 y.ho, .int .i64 y.md] 71))).drew T ⟨has, A ++ y :: B⟩) := Lk.hid (HC.out.rm.below HB1b.out.drew)
                          have HLN9 : Hid (has.length ≤ 1000 ∧ (A ++ y :: B).length ≤ 1000 ∧ nA ≤ (A ++ y :: B).length) := Lk.hid ⟨by have := HF.out.l1; omega, by have := HNQ2.out.1; omega, by have := HNQ2.out.1; omega⟩
                          have HOK9 : Hid (∀ z ∈ has, z.ok) := Lk.hid HF.out.ok.1
                          rw [hs2] at hE
                          cases hbb : Lk.barsRb has A y
                          · have HBB := Lk.hid hbb
                            have HFG := Lk.hid (HF.out.get hs hbb)
                            have HSN := Lk.hid hs
                            clear hbb hs
                            go_wp2_with fail
                            go_region_held3 (fun w' => w'.cell? ⟨wr.heap.size, 0, none⟩ = some (Lk.str y.nm) ∧ w'.cell? ⟨wr.heap.size, 1, none⟩ = some (.int .i64 y.ho) ∧ w'.cell? ⟨wr.heap.size, 2, none⟩ = some (.int .i64 y.md) ∧ w'.cell? ⟨bn, k, none⟩ = some (Lk.str nm)) (first | exact HS9.out _ (Below.refl _ _).drew | exact HS9.out _ HB2.out) ((go_at_call 35; refine (refBarring_any (Y ++ X) _ T ⟨has, A ++ y :: B⟩ y nA HR1 ⟨HLN9.out.1, HLN9.out.2.1⟩ HLN9.out.2.2 HOK9).mono ?_; rintro e w ⟨p2, c2, l2, rfl, s1, s2, s3, s4, s5⟩; obtain ⟨n2, hn2⟩ : ∃ n2, n2 = l2.length := ⟨_, rfl⟩; rw [← hn2]; have HB2 : Hid (Below ((wr.alloc (.cells #[Lk.str y.nm, .int .i64 y.ho, .int .i64 y.md] 71))).heap.size (wr.alloc (.cells #[Lk.str y.nm, .int .i64 y.ho, .int .i64 y.md] 71)) w) := Lk.hid (Lk.belTr (Below.refl _ _).drew s5); have hlb : decide ((0 : Int) < (l2.length : Int)) = false := (by rw [Lk.bars_nil s3, show (A ++ y :: B).take nA = A from by rw [HNA.out]; simp]; exact HBB.out); rw [← hn2] at hlb; have hlen : n2 = 0 := (by have h9 := of_decide_eq_false hlb; omega); subst hlen; clear hlb s1 s2 s3 s4 s5 hn2))
                            go_wp2_with fail
                            obtain ⟨HW, HTW, HCB3, HC3, HXB, HA31⟩ : Hid (Below wr.heap.size wr w) ∧ Hid (T < w.heap.size) ∧ Hid (w.cell? ⟨T, 1, none⟩ = some (.slice (some ⟨b, 0, none⟩) nq2 cb)) ∧ Hid (Lk.Lc X Y W w T ⟨has, A ++ y :: B⟩ (some ⟨bn, 0, none⟩) cn N pt ct Tq _ out) ∧ Hid (Lk.Box3 w wr.heap.size y) ∧ Hid ((Lk.cellsH A).length = nA * 3 ∧ Lk.Lies w (some ⟨b, 0, none⟩) (Lk.cellsH A) ∧ (Lk.cellsH B).length = (nq2 - (nA + 1)) * 3 ∧ Lk.Lies w (if cb = nA + 1 then some ⟨b, 0, none⟩ else some ⟨b, (nA + 1) * 3, none⟩) (Lk.cellsH B)) := by
                              have hW := Lk.belTr HB1b.out HB2.out
                              have hTr := HC.out.rm.lt
                              have hA3 : Lk.cellsH A = (Lk.cellsH (A ++ y :: B)).take (nA * 3) := by rw [HNA.out, Lk.cellsH_take]; simp
                              have hB3 : Lk.cellsH B = (Lk.cellsH (A ++ y :: B)).drop ((nA + 1) * 3) := by rw [HNA.out, Lk.cellsH_drop]; simp
                              have hS : Lk.Sl wr (some ⟨b, 0, none⟩) nq2 cb (Lk.cellsH (A ++ y :: B)) := ⟨HIN.out, (fun h => nomatch h), fun a e => ⟨b, by injection e with e; exact e.symm⟩, HCAP.out⟩
                              refine ⟨hW, Nat.lt_of_lt_of_le hTr hW.size, (Lk.belAt hW 1 hTr).trans HCB2.out, HC.out.below hW, HX1b.out.below HB2.out, by rw [Lk.cellsH_length, HNA.out], ?_, by rw [Lk.cellsH_length]; have := HNQ2.out.2; omega, ?_⟩
                              · rw [hA3]; exact (Lk.Lies.take HIN.out _).below hW
                              · rw [hB3]; exact (Lk.cut_some hS (by rw [Lk.cellsH_length, ← HNQ2.out.1]) (by omega)).below hW
                            have gc1 : (nA : Int) ≤ (cb : Int) := by have := HCAP.out; omega
                            have gc2 : (nA : Int) + 1 ≤ (nq2 : Int) := by omega
                            have gc3 : (nq2 : Int) ≤ (cb : Int) := by have := HCAP.out; omega
                            have gc4 : (0 : Int) ≤ (nA : Int) + 1 := by omega
                            have gc5 : (nA : Int) + 1 ≤ (cb : Int) := by omega
                            have hwr : IntKind.i64.wrap ((nA : Int) + 1) = (nA : Int) + 1 := by rw [IntKind.wrap_i64]; omega
                            have htn : ((nA : Int) + 1).toNat = nA + 1 := by omega
                            have hnB : nq2 - (nA + 1) ≤ 800 := by omega
                            have HTR : Hid (T < wr.heap.size) := Lk.hid HC.out.rm.lt
                            clear HS9 HR1 HB1b HX1b HB2 HC hcb c0 c1
                            refine wp_region_held_drew (S := (fun _ => True)) (by kernel_rfl) (trivial) (fun hH => ?_)
                            refine wpAnyH_take (i := 0) (oi := ?op1q0) (v := ?vp1q0) ?hip1q0 ?hsp1q0 ?hfp1q0 ?hrp1q0 ?hQp1q0 (Or.inl ⟨?hwp1q0, ?hyp1q0⟩) ?hSp1q0 ?restp1q0
                            case hip1q0 => (simp; rfl)
                            case hsp1q0 => kernel_rfl
                            case hfp1q0 => kernel_rfl
                            case hrp1q0 => kernel_rfl
                            case hQp1q0 => exact fun _ _ _ h => h
                            case hwp1q0 => rfl
                            case hyp1q0 => (intro wq hSq; (try dsimp only at hSq); go_simp; (try with_reducible rfl))
                            case hSp1q0 => assumption
                            simp only [Act.put, List.setIfInBounds_toArray, List.set_cons_zero, List.set_cons_succ]
                            refine wpAnyH_take (i := 2) (oi := ?op2q2) (v := ?vp2q2) ?hip2q2 ?hsp2q2 ?hfp2q2 ?hrp2q2 ?hQp2q2 (Or.inl ⟨?hwp2q2, ?hyp2q2⟩) ?hSp2q2 ?restp2q2
                            case hip2q2 => (simp; rfl)
                            case hsp2q2 => kernel_rfl
                            case hfp2q2 => kernel_rfl
                            case hrp2q2 => kernel_rfl
                            case hQp2q2 => exact fun _ _ _ h => h
                            case hwp2q2 => rfl
                            case hyp2q2 => (intro wq hSq; (try dsimp only at hSq); go_simp; (try with_reducible rfl))
                            case hSp2q2 => assumption
                            simp only [Act.put, List.setIfInBounds_toArray, List.set_cons_zero, List.set_cons_succ]
                            refine wpAnyH_take (i := 3) (oi := ?op3q3) (v := ?vp3q3) ?hip3q3 ?hsp3q3 ?hfp3q3 ?hrp3q3 ?hQp3q3 (Or.inl ⟨?hwp3q3, ?hyp3q3⟩) ?hSp3q3 ?restp3q3
                            case hip3q3 => (simp; rfl)
                            case hsp3q3 => kernel_rfl
                            case hfp3q3 => kernel_rfl
                            case hrp3q3 => kernel_rfl
                            case hQp3q3 => exact fun _ _ _ h => h
                            case hwp3q3 => rfl
                            case hyp3q3 => (intro wq hSq; (try dsimp only at hSq); go_simp; (try with_reducible rfl))
                            case hSp3q3 => assumption
                            simp only [Act.put, List.setIfInBounds_toArray, List.set_cons_zero, List.set_cons_succ]
                            refine wpAnyH_take (i := 4) (oi := ?op4q4) (v := ?vp4q4) ?hip4q4 ?hsp4q4 ?hfp4q4 ?hrp4q4 ?hQp4q4 (Or.inl ⟨?hwp4q4, ?hyp4q4⟩) ?hSp4q4 ?restp4q4
                            case hip4q4 => (simp; rfl)
                            case hsp4q4 => kernel_rfl
                            case hfp4q4 => kernel_rfl
                            case hrp4q4 => kernel_rfl
                            case hQp4q4 => exact fun _ _ _ h => h
                            case hwp4q4 => rfl
                            case hyp4q4 => (intro wq hSq; (try dsimp only at hSq); go_simp; (try with_reducible rfl))
                            case hSp4q4 => assumption
                            simp only [Act.put, List.setIfInBounds_toArray, List.set_cons_zero, List.set_cons_succ]
                            refine wpAnyH_take (i := 6) (oi := ?op5q6) (v := ?vp5q6) ?hip5q6 ?hsp5q6 ?hfp5q6 ?hrp5q6 ?hQp5q6 (Or.inl ⟨?hwp5q6, ?hyp5q6⟩) ?hSp5q6 ?restp5q6
                            case hip5q6 => (simp; rfl)
                            case hsp5q6 => kernel_rfl
                            case hfp5q6 => kernel_rfl
                            case hrp5q6 => kernel_rfl
                            case hQp5q6 => exact fun _ _ _ h => h
                            case hwp5q6 => rfl
                            case hyp5q6 => (intro wq hSq; (try dsimp only at hSq); go_simp; (try with_reducible rfl))
                            case hSp5q6 => assumption
                            simp only [Act.put, List.setIfInBounds_toArray, List.set_cons_zero, List.set_cons_succ]
                            refine wpAnyH_take (i := 9) (oi := ?op6q9) (v := ?vp6q9) ?hip6q9 ?hsp6q9 ?hfp6q9 ?hrp6q9 ?hQp6q9 (Or.inl ⟨?hwp6q9, ?hyp6q9⟩) ?hSp6q9 ?restp6q9
                            case hip6q9 => (simp; rfl)
                            case hsp6q9 => kernel_rfl
                            case hfp6q9 => kernel_rfl
                            case hrp6q9 => kernel_rfl
                            case hQp6q9 => exact fun _ _ _ h => h
                            case hwp6q9 => rfl
                            case hyp6q9 => (intro wq hSq; (try dsimp only at hSq); go_simp; (try with_reducible rfl))
                            case hSp6q9 => assumption
                            simp only [Act.put, List.setIfInBounds_toArray, List.set_cons_zero, List.set_cons_succ]
                            refine wpAnyH_take (i := 10) (oi := ?op7q10) (v := ?vp7q10) ?hip7q10 ?hsp7q10 ?hfp7q10 ?hrp7q10 ?hQp7q10 (Or.inl ⟨?hwp7q10, ?hyp7q10⟩) ?hSp7q10 ?restp7q10
                            case hip7q10 => (simp; rfl)
                            case hsp7q10 => kernel_rfl
                            case hfp7q10 => kernel_rfl
                            case hrp7q10 => kernel_rfl
                            case hQp7q10 => exact fun _ _ _ h => h
                            case hwp7q10 => rfl
                            case hyp7q10 => (intro wq hSq; (try dsimp only at hSq); go_simp; (try with_reducible rfl))
                            case hSp7q10 => assumption
                            simp only [Act.put, List.setIfInBounds_toArray, List.set_cons_zero, List.set_cons_succ]
                            refine wpAnyH_take (i := 11) (oi := ?op8q11) (v := ?vp8q11) ?hip8q11 ?hsp8q11 ?hfp8q11 ?hrp8q11 ?hQp8q11 (Or.inl ⟨?hwp8q11, ?hyp8q11⟩) ?hSp8q11 ?restp8q11
                            case hip8q11 => (simp; rfl)
                            case hsp8q11 => kernel_rfl
                            case hfp8q11 => kernel_rfl
                            case hrp8q11 => kernel_rfl
                            case hQp8q11 => exact fun _ _ _ h => h
                            case hwp8q11 => rfl
                            case hyp8q11 => (intro wq hSq; (try dsimp only at hSq); go_simp; (try with_reducible rfl))
                            case hSp8q11 => assumption
                            simp only [Act.put, List.setIfInBounds_toArray, List.set_cons_zero, List.set_cons_succ]
                            refine wpAnyH_take (i := 13) (oi := ?op9q13) (v := ?vp9q13) ?hip9q13 ?hsp9q13 ?hfp9q13 ?hrp9q13 ?hQp9q13 (Or.inl ⟨?hwp9q13, ?hyp9q13⟩) ?hSp9q13 ?restp9q13
                            case hip9q13 => (simp; rfl)
                            case hsp9q13 => kernel_rfl
                            case hfp9q13 => kernel_rfl
                            case hrp9q13 => kernel_rfl
                            case hQp9q13 => exact fun _ _ _ h => h
                            case hwp9q13 => rfl
                            case hyp9q13 => (intro wq hSq; (try dsimp only at hSq); go_simp; (try with_reducible rfl))
                            case hSp9q13 => assumption
                            simp only [Act.put, List.setIfInBounds_toArray, List.set_cons_zero, List.set_cons_succ]
                            refine wpAnyH_take (i := 14) (oi := ?op10q14) (v := ?vp10q14) ?hip10q14 ?hsp10q14 ?hfp10q14 ?hrp10q14 ?hQp10q14 (Or.inl ⟨?hwp10q14, ?hyp10q14⟩) ?hSp10q14 ?restp10q14
                            case hip10q14 => (simp; rfl)
                            case hsp10q14 => kernel_rfl
                            case hfp10q14 => kernel_rfl
                            case hrp10q14 => kernel_rfl
                            case hQp10q14 => exact fun _ _ _ h => h
                            case hwp10q14 => rfl
                            case hyp10q14 => (intro wq hSq; (try dsimp only at hSq); go_simp; (try with_reducible rfl))
                            case hSp10q14 => assumption
                            simp only [Act.put, List.setIfInBounds_toArray, List.set_cons_zero, List.set_cons_succ]
                            apply Lk.mergeH
                            case m =>
                              intro pkB
                              apply Lk.mergeH
                              case m =>
                                intro pkA
                                refine wpAnyH_ready (rs := [1, 5, 12]) (by kernel_rfl) (by simp) ?_
                                refine AllReadyH.cons (o := ?op11q) ?hp11q (fun K hK => ?rp11q) (AllReadyH.cons (o := ?op12q) ?hp12q (fun K hK => ?rp12q) (AllReadyH.cons (o := ?op13q) ?hp13q (fun K hK => ?rp13q) AllReadyH.nil))
                                case hp11q => (simp; rfl)
                                case hp12q => (simp; rfl)
                                case hp13q => (simp; rfl)
                                case rp11q =>
                                  go_simp
                                  refine hK.out _ _ (trivial) (fun hHp14q => ?_)
                                  clear hK K
                                  refine wpAnyH_ready (rs := [5, 12]) (by kernel_rfl) (by simp) ?_
                                  refine AllReadyH.cons (o := ?op15q) ?hp15q (fun K hK => ?rp15q) (AllReadyH.cons (o := ?op16q) ?hp16q (fun K hK => ?rp16q) AllReadyH.nil)
                                  case hp15q => (simp; rfl)
                                  case hp16q => (simp; rfl)
                                  case rp15q =>
                                    have hc5 := (Lk.belAt ((Lk.belAl (Below.refl _ w) (.cells #[] 71)).drew) 1 HTW.out).trans HCB3.out
                                    go_simp
                                    clear hc5
                                    refine hK.out _ _ (trivial) (fun hHp17q => ?_)
                                    clear hK K
                                    refine wpAnyH_take (i := 7) (oi := ?op18q7) (v := ?vp18q7) ?hip18q7 ?hsp18q7 ?hfp18q7 ?hrp18q7 ?hQp18q7 (Or.inl ⟨?hwp18q7, ?hyp18q7⟩) ?hSp18q7 ?restp18q7
                                    case hip18q7 => (simp; rfl)
                                    case hsp18q7 => kernel_rfl
                                    case hfp18q7 => kernel_rfl
                                    case hrp18q7 => kernel_rfl
                                    case hQp18q7 => exact fun _ _ _ h => h
                                    case hwp18q7 => rfl
                                    case hyp18q7 => (intro wq hSq; (try dsimp only at hSq); go_simp; (try with_reducible rfl))
                                    case hSp18q7 => assumption
                                    simp only [Act.put, List.setIfInBounds_toArray, List.set_cons_zero, List.set_cons_succ]
                                    exact pkA
                                  case rp16q =>
                                    have hc5 := (Lk.belAt ((Lk.belAl (Below.refl _ w) (.cells #[] 71)).drew) 1 HTW.out).trans HCB3.out
                                    go_simp
                                    clear hc5
                                    refine hK.out _ _ (trivial) (fun hHp19q => ?_)
                                    clear hK K
                                    refine wpAnyH_take (i := 15) (oi := ?op20q15) (v := ?vp20q15) ?hip20q15 ?hsp20q15 ?hfp20q15 ?hrp20q15 ?hQp20q15 (Or.inl ⟨?hwp20q15, ?hyp20q15⟩) ?hSp20q15 ?restp20q15
                                    case hip20q15 => (simp; rfl)
                                    case hsp20q15 => kernel_rfl
                                    case hfp20q15 => kernel_rfl
                                    case hrp20q15 => kernel_rfl
                                    case hQp20q15 => exact fun _ _ _ h => h
                                    case hwp20q15 => rfl
                                    case hyp20q15 => (intro wq hSq; (try dsimp only at hSq); go_simp; (try with_reducible rfl))
                                    case hSp20q15 => assumption
                                    simp only [Act.put, List.setIfInBounds_toArray, List.set_cons_zero, List.set_cons_succ]
                                    refine wpAnyH_ready (rs := [5]) (by kernel_rfl) (by simp) ?_
                                    refine AllReadyH.cons (o := ?op21q) ?hp21q (fun K hK => ?rp21q) AllReadyH.nil
                                    case hp21q => (simp; rfl)
                                    case rp21q =>
                                      have hc5 := (Lk.belAt ((Lk.belAl (Below.refl _ w) (.cells #[] 71)).drew) 1 HTW.out).trans HCB3.out
                                      go_simp
                                      clear hc5
                                      refine hK.out _ _ (trivial) (fun hHp22q => ?_)
                                      clear hK K
                                      refine wpAnyH_take (i := 7) (oi := ?op23q7) (v := ?vp23q7) ?hip23q7 ?hsp23q7 ?hfp23q7 ?hrp23q7 ?hQp23q7 (Or.inl ⟨?hwp23q7, ?hyp23q7⟩) ?hSp23q7 ?restp23q7
                                      case hip23q7 => (simp; rfl)
                                      case hsp23q7 => kernel_rfl
                                      case hfp23q7 => kernel_rfl
                                      case hrp23q7 => kernel_rfl
                                      case hQp23q7 => exact fun _ _ _ h => h
                                      case hwp23q7 => rfl
                                      case hyp23q7 => (intro wq hSq; (try dsimp only at hSq); go_simp; (try with_reducible rfl))
                                      case hSp23q7 => assumption
                                      simp only [Act.put, List.setIfInBounds_toArray, List.set_cons_zero, List.set_cons_succ]
                                      exact pkB
                                case rp12q =>
                                  have hc5 := (Lk.belAt ((Below.refl _ w).drew) 1 HTW.out).trans HCB3.out
                                  go_simp
                                  clear hc5
                                  refine hK.out _ _ (trivial) (fun hHp24q => ?_)
                                  clear hK K
                                  refine wpAnyH_take (i := 7) (oi := ?op25q7) (v := ?vp25q7) ?hip25q7 ?hsp25q7 ?hfp25q7 ?hrp25q7 ?hQp25q7 (Or.inl ⟨?hwp25q7, ?hyp25q7⟩) ?hSp25q7 ?restp25q7
                                  case hip25q7 => (simp; rfl)
                                  case hsp25q7 => kernel_rfl
                                  case hfp25q7 => kernel_rfl
                                  case hrp25q7 => kernel_rfl
                                  case hQp25q7 => exact fun _ _ _ h => h
                                  case hwp25q7 => rfl
                                  case hyp25q7 => (intro wq hSq; (try dsimp only at hSq); go_simp; (try with_reducible rfl))
                                  case hSp25q7 => assumption
                                  simp only [Act.put, List.setIfInBounds_toArray, List.set_cons_zero, List.set_cons_succ]
                                  refine wpAnyH_ready (rs := [1, 12]) (by kernel_rfl) (by simp) ?_
                                  refine AllReadyH.cons (o := ?op26q) ?hp26q (fun K hK => ?rp26q) (AllReadyH.cons (o := ?op27q) ?hp27q (fun K hK => ?rp27q) AllReadyH.nil)
                                  case hp26q => (simp; rfl)
                                  case hp27q => (simp; rfl)
                                  case rp26q =>
                                    go_simp
                                    refine hK.out _ _ (trivial) (fun hHp28q => ?_)
                                    clear hK K
                                    exact Lk.wpAnyH_eq (by kernel_rfl) pkA
                                  case rp27q =>
                                    have hc5 := (Lk.belAt ((Below.refl _ w).drew) 1 HTW.out).trans HCB3.out
                                    go_simp
                                    clear hc5
                                    refine hK.out _ _ (trivial) (fun hHp29q => ?_)
                                    clear hK K
                                    refine wpAnyH_take (i := 15) (oi := ?op30q15) (v := ?vp30q15) ?hip30q15 ?hsp30q15 ?hfp30q15 ?hrp30q15 ?hQp30q15 (Or.inl ⟨?hwp30q15, ?hyp30q15⟩) ?hSp30q15 ?restp30q15
                                    case hip30q15 => (simp; rfl)
                                    case hsp30q15 => kernel_rfl
                                    case hfp30q15 => kernel_rfl
                                    case hrp30q15 => kernel_rfl
                                    case hQp30q15 => exact fun _ _ _ h => h
                                    case hwp30q15 => rfl
                                    case hyp30q15 => (intro wq hSq; (try dsimp only at hSq); go_simp; (try with_reducible rfl))
                                    case hSp30q15 => assumption
                                    simp only [Act.put, List.setIfInBounds_toArray, List.set_cons_zero, List.set_cons_succ]
                                    refine wpAnyH_ready (rs := [1]) (by kernel_rfl) (by simp) ?_
                                    refine AllReadyH.cons (o := ?op31q) ?hp31q (fun K hK => ?rp31q) AllReadyH.nil
                                    case hp31q => (simp; rfl)
                                    case rp31q =>
                                      go_simp
                                      refine hK.out _ _ (trivial) (fun hHp32q => ?_)
                                      clear hK K
                                      exact Lk.wpAnyH_eq (by kernel_rfl) pkB
                                case rp13q =>
                                  have hc5 := (Lk.belAt ((Below.refl _ w).drew) 1 HTW.out).trans HCB3.out
                                  go_simp
                                  clear hc5
                                  refine hK.out _ _ (trivial) (fun hHp33q => ?_)
                                  clear hK K
                                  refine wpAnyH_take (i := 15) (oi := ?op34q15) (v := ?vp34q15) ?hip34q15 ?hsp34q15 ?hfp34q15 ?hrp34q15 ?hQp34q15 (Or.inl ⟨?hwp34q15, ?hyp34q15⟩) ?hSp34q15 ?restp34q15
                                  case hip34q15 => (simp; rfl)
                                  case hsp34q15 => kernel_rfl
                                  case hfp34q15 => kernel_rfl
                                  case hrp34q15 => kernel_rfl
                                  case hQp34q15 => exact fun _ _ _ h => h
                                  case hwp34q15 => rfl
                                  case hyp34q15 => (intro wq hSq; (try dsimp only at hSq); go_simp; (try with_reducible rfl))
                                  case hSp34q15 => assumption
                                  simp only [Act.put, List.setIfInBounds_toArray, List.set_cons_zero, List.set_cons_succ]
                                  refine wpAnyH_ready (rs := [1, 5]) (by kernel_rfl) (by simp) ?_
                                  refine AllReadyH.cons (o := ?op35q) ?hp35q (fun K hK => ?rp35q) (AllReadyH.cons (o := ?op36q) ?hp36q (fun K hK => ?rp36q) AllReadyH.nil)
                                  case hp35q => (simp; rfl)
                                  case hp36q => (simp; rfl)
                                  case rp35q =>
                                    go_simp
                                    refine hK.out _ _ (trivial) (fun hHp37q => ?_)
                                    clear hK K
                                    refine wpAnyH_ready (rs := [5]) (by kernel_rfl) (by simp) ?_
                                    refine AllReadyH.cons (o := ?op38q) ?hp38q (fun K hK => ?rp38q) AllReadyH.nil
                                    case hp38q => (simp; rfl)
                                    case rp38q =>
                                      have hc5 := (Lk.belAt ((Lk.belAl (Below.refl _ w) (.cells #[] 71)).drew) 1 HTW.out).trans HCB3.out
                                      go_simp
                                      clear hc5
                                      refine hK.out _ _ (trivial) (fun hHp39q => ?_)
                                      clear hK K
                                      refine wpAnyH_take (i := 7) (oi := ?op40q7) (v := ?vp40q7) ?hip40q7 ?hsp40q7 ?hfp40q7 ?hrp40q7 ?hQp40q7 (Or.inl ⟨?hwp40q7, ?hyp40q7⟩) ?hSp40q7 ?restp40q7
                                      case hip40q7 => (simp; rfl)
                                      case hsp40q7 => kernel_rfl
                                      case hfp40q7 => kernel_rfl
                                      case hrp40q7 => kernel_rfl
                                      case hQp40q7 => exact fun _ _ _ h => h
                                      case hwp40q7 => rfl
                                      case hyp40q7 => (intro wq hSq; (try dsimp only at hSq); go_simp; (try with_reducible rfl))
                                      case hSp40q7 => assumption
                                      simp only [Act.put, List.setIfInBounds_toArray, List.set_cons_zero, List.set_cons_succ]
                                      exact Lk.wpAnyH_eq (by kernel_rfl) pkB
                                  case rp36q =>
                                    have hc5 := (Lk.belAt ((Below.refl _ w).drew) 1 HTW.out).trans HCB3.out
                                    go_simp
                                    clear hc5
                                    refine hK.out _ _ (trivial) (fun hHp41q => ?_)
                                    clear hK K
                                    refine wpAnyH_take (i := 7) (oi := ?op42q7) (v := ?vp42q7) ?hip42q7 ?hsp42q7 ?hfp42q7 ?hrp42q7 ?hQp42q7 (Or.inl ⟨?hwp42q7, ?hyp42q7⟩) ?hSp42q7 ?restp42q7
                                    case hip42q7 => (simp; rfl)
                                    case hsp42q7 => kernel_rfl
                                    case hfp42q7 => kernel_rfl
                                    case hrp42q7 => kernel_rfl
                                    case hQp42q7 => exact fun _ _ _ h => h
                                    case hwp42q7 => rfl
                                    case hyp42q7 => (intro wq hSq; (try dsimp only at hSq); go_simp; (try with_reducible rfl))
                                    case hSp42q7 => assumption
                                    simp only [Act.put, List.setIfInBounds_toArray, List.set_cons_zero, List.set_cons_succ]
                                    refine wpAnyH_ready (rs := [1]) (by kernel_rfl) (by simp) ?_
                                    refine AllReadyH.cons (o := ?op43q) ?hp43q (fun K hK => ?rp43q) AllReadyH.nil
                                    case hp43q => (simp; rfl)
                                    case rp43q =>
                                      go_simp
                                      refine hK.out _ _ (trivial) (fun hHp44q => ?_)
                                      clear hK K
                                      exact Lk.wpAnyH_eq (by kernel_rfl) pkB
                              case p =>
                                refine wpAnyH_ready (rs := [8, 12]) (by kernel_rfl) (by simp) ?_
                                refine AllReadyH.cons (o := ?op45q) ?hp45q (fun K hK => ?rp45q) (AllReadyH.cons (o := ?op46q) ?hp46q (fun K hK => ?rp46q) AllReadyH.nil)
                                case hp45q => (simp; rfl)
                                case hp46q => (simp; rfl)
                                case rp45q =>
                                  refine Lk.step_append rfl _ _ 26 rfl w.heap.size 71 iH (.agg #[.string ⟨#[]⟩, .int .i64 0, .int .i64 0]) 3 32 Tryd.underlying26 HIH.out.1 HIH.out.2.1 HIH.out.2.2.1 HIH.out.2.2.2 rfl (by decide) (.slice (some ⟨w.heap.size, 0, none⟩) 0 0) 0 ([]) rfl ((Lk.Blk.new2 (Below.refl _ w) _ (g := w.heap.size) rfl).drew.own) (some ⟨b, 0, none⟩) nA cb (Lk.cellsH A) rfl (fun h => nomatch h) (HA31.out.1) (HA31.out.2.1.below (Lk.Blk.new2 (Below.refl _ w) _ (g := w.heap.size) rfl).drew.bel) (Lk.cellsH_one _) (by unfold maxLen; omega) (by omega) (((Lk.Blk.new2 (Below.refl _ w) _ (g := w.heap.size) rfl).drew.bel).size) ?_
                                  intro v1 W1 hown1 hgrow1
                                  rw [List.nil_append, Nat.zero_add] at hown1
                                  have HB1 := Lk.hid (Lk.belOwn (size := 3) ((Lk.Blk.new2 (Below.refl _ w) _ (g := w.heap.size) rfl).drew.bel) ((Lk.Blk.new2 (Below.refl _ w) _ (g := w.heap.size) rfl).drew.own) (Nat.le_refl _) hgrow1)
                                  have HOWN1 := Lk.hid hown1
                                  clear hown1 hgrow1
                                  refine hK.out _ _ (trivial) (fun hHp47q => ?_)
                                  clear hK K
                                  refine wpAnyH_ready (rs := [12]) (by kernel_rfl) (by simp) ?_
                                  refine AllReadyH.cons (o := ?op48q) ?hp48q (fun K hK => ?rp48q) AllReadyH.nil
                                  case hp48q => (simp; rfl)
                                  case rp48q =>
                                    have hc5 := (Lk.belAt (HB1.out) 1 HTW.out).trans HCB3.out
                                    go_simp
                                    clear hc5
                                    refine hK.out _ _ (trivial) (fun hHp49q => ?_)
                                    clear hK K
                                    refine wpAnyH_take (i := 15) (oi := ?op50q15) (v := ?vp50q15) ?hip50q15 ?hsp50q15 ?hfp50q15 ?hrp50q15 ?hQp50q15 (Or.inl ⟨?hwp50q15, ?hyp50q15⟩) ?hSp50q15 ?restp50q15
                                    case hip50q15 => (simp; rfl)
                                    case hsp50q15 => kernel_rfl
                                    case hfp50q15 => kernel_rfl
                                    case hrp50q15 => kernel_rfl
                                    case hQp50q15 => exact fun _ _ _ h => h
                                    case hwp50q15 => rfl
                                    case hyp50q15 => (intro wq hSq; (try dsimp only at hSq); go_simp; (try with_reducible rfl))
                                    case hSp50q15 => assumption
                                    simp only [Act.put, List.setIfInBounds_toArray, List.set_cons_zero, List.set_cons_succ]
                                    refine wpAnyH_ready (rs := [16]) (by kernel_rfl) (by simp) ?_
                                    refine AllReadyH.cons (o := ?op51q) ?hp51q (fun K hK => ?rp51q) AllReadyH.nil
                                    case hp51q => (simp; rfl)
                                    case rp51q =>
                                      refine Lk.step_append rfl _ _ 26 rfl w.heap.size 71 iH (.agg #[.string ⟨#[]⟩, .int .i64 0, .int .i64 0]) 3 32 Tryd.underlying26 HIH.out.1 HIH.out.2.1 HIH.out.2.2.1 HIH.out.2.2.2 rfl (by decide) v1 nA (Lk.cellsH A) rfl (HOWN1.out) _ _ _ (Lk.cellsH B) rfl (fun h => by split at h <;> cases h) (by have := HA31.out.2.2.1; first | exact this | simpa using this) (HA31.out.2.2.2.below HB1.out) (Lk.cellsH_one _) (by unfold maxLen; omega) (by omega) ((HB1.out).size) ?_
                                      intro v3 W3 hown3 hgrow3
                                      have HB3 := Lk.hid (Lk.belOwn (size := 3) (HB1.out) (HOWN1.out) (Nat.le_refl _) hgrow3)
                                      have HOWN3 := Lk.hid hown3
                                      clear hown3 hgrow3
                                      refine hK.out _ _ (trivial) (fun hHp52q => ?_)
                                      clear hK K
                                      refine wpAnyH_take (i := 17) (oi := ?op53q17) (v := ?vp53q17) ?hip53q17 ?hsp53q17 ?hfp53q17 ?hrp53q17 ?hQp53q17 (Or.inl ⟨?hwp53q17, ?hyp53q17⟩) ?hSp53q17 ?restp53q17
                                      case hip53q17 => (simp; rfl)
                                      case hsp53q17 => kernel_rfl
                                      case hfp53q17 => kernel_rfl
                                      case hrp53q17 => kernel_rfl
                                      case hQp53q17 => exact fun _ _ _ h => h
                                      case hwp53q17 => rfl
                                      case hyp53q17 => (intro wq hSq; (try dsimp only at hSq); go_simp; (try with_reducible rfl))
                                      case hSp53q17 => assumption
                                      simp only [Act.put, List.setIfInBounds_toArray, List.set_cons_zero, List.set_cons_succ]
                                      refine wpAnyH_take (i := 18) (oi := ?op54q18) (v := ?vp54q18) ?hip54q18 ?hsp54q18 ?hfp54q18 ?hrp54q18 ?hQp54q18 (Or.inl ⟨?hwp54q18, ?hyp54q18⟩) ?hSp54q18 ?restp54q18
                                      case hip54q18 => (simp; rfl)
                                      case hsp54q18 => kernel_rfl
                                      case hfp54q18 => kernel_rfl
                                      case hrp54q18 => kernel_rfl
                                      case hQp54q18 => exact fun _ _ _ h => h
                                      case hwp54q18 => rfl
                                      case hyp54q18 => (intro wq hSq; (try dsimp only at hSq); go_simp; (try with_reducible rfl))
                                      case hSp54q18 => assumption
                                      simp only [Act.put, List.setIfInBounds_toArray, List.set_cons_zero, List.set_cons_succ]
                                      refine wpAnyH_ready (rs := [19]) (by kernel_rfl) (by simp) ?_
                                      refine AllReadyH.cons (o := ?op55q) ?hp55q (fun K hK => ?rp55q) AllReadyH.nil
                                      case hp55q => (simp; rfl)
                                      case rp55q =>
                                        obtain ⟨pS, cS, rfl, -⟩ := Lk.Sl.own HOWN3.out
                                        have hcT := (Lk.belAt HB3.out 1 HTW.out).trans HCB3.out
                                        have hfz := HC3.out.rm.frz HB3.out 1
                                        go_simp
                                        clear hcT hfz
                                        refine hK.out _ _ (trivial) (fun hHp56q => ?_)
                                        clear hK K
                                        refine wpAnyH_done (by kernel_rfl) ?_ _
                                        generalize (if cb = nA + 1 then (some (⟨b, 0, none⟩ : Addr)) else some ⟨b, (nA + 1) * 3, none⟩) = pz
                                        have HE3 := Lk.hid (Lk.Ends.store1 (l := A ++ B) HC3.out.rm HB3.out (by rw [Lk.cellsH_app]; exact HOWN3.out) (Nat.le_refl _) (by have := HNQ2.out.2; have := HNA.out; simp; omega))
                                        have HBX4 := Lk.hid (HE3.out.box HXB.out (by have := HC3.out.tw; have := HC3.out.gr.size; have := HTR.out; omega))
                                        obtain ⟨Y4, hC4⟩ := HC3.out.ends HE3.out
                                        have HC4 := Lk.hid hC4
                                        clear hC4 HE3 HOWN1 HOWN3 HB1 HB3 HXB HA31 HTW HCB3 HC3
                                        obtain ⟨w, hw4⟩ := Lk.nameW HC4
                                        rw [← hw4] at HC4 HBX4 ⊢
                                        clear hw4
                                        go_wp2_with fail
                                        obtain ⟨ph2, ch2, hcw, hin2, -, hnil2, -⟩ := HC4.out.rm.has
                                        dsimp only at hcw hin2 hnil2
                                        obtain ⟨nh2, hnh2⟩ : ∃ nh2, nh2 = has.length := ⟨_, rfl⟩
                                        rw [← hnh2] at hcw hnil2
                                        have HNH2 := Lk.hid hnh2
                                        have HCW := Lk.hid hcw
                                        have HL32 : Hid ((ph2 = none → nh2 = 0 ∧ ch2 = 0) ∧ (Lk.cellsH has).length = nh2 * 3 ∧ Lk.Lies w ph2 (Lk.cellsH has)) := Lk.hid ⟨hnil2, by rw [Lk.cellsH_length, hnh2], hin2⟩
                                        have hnh3 : nh2 ≤ 1000 := by rw [hnh2]; exact HLN9.out.1
                                        have HXW := HBX4
                                        have HTW : Hid (T < w.heap.size) := Lk.hid HC4.out.rm.lt
                                        have HRW := Lk.hid HC4.out.rm
                                        have HNE : Hid (wr.heap.size ≠ T) := Lk.hid (by have := HTR.out; omega)
                                        clear hcw hin2 hnil2 hnh2 HBX4
                                        refine wp_region_held_drew (S := (fun w' => w'.cell? ⟨wr.heap.size, 0, none⟩ = some (Lk.str y.nm) ∧ w'.cell? ⟨wr.heap.size, 1, none⟩ = some (.int .i64 y.ho) ∧ w'.cell? ⟨wr.heap.size, 2, none⟩ = some (.int .i64 y.md))) (by kernel_rfl) (Lk.boxS (HXW.out.below (Below.refl _ _).drew)) (fun hH => ?_)
                                        refine wpAnyH_take (i := 0) (oi := ?oq1z1q0) (v := ?vq1z1q0) ?hiq1z1q0 ?hsq1z1q0 ?hfq1z1q0 ?hrq1z1q0 ?hQq1z1q0 (Or.inl ⟨?hwq1z1q0, ?hyq1z1q0⟩) ?hSq1z1q0 ?restq1z1q0
                                        case hiq1z1q0 => (simp; rfl)
                                        case hsq1z1q0 => kernel_rfl
                                        case hfq1z1q0 => kernel_rfl
                                        case hrq1z1q0 => kernel_rfl
                                        case hQq1z1q0 => exact fun _ _ _ h => h
                                        case hwq1z1q0 => rfl
                                        case hyq1z1q0 => (intro wq hSq; (try dsimp only at hSq); go_simp; (try with_reducible rfl))
                                        case hSq1z1q0 => assumption
                                        simp only [Act.put, List.setIfInBounds_toArray, List.set_cons_zero, List.set_cons_succ]
                                        refine wpAnyH_take (i := 2) (oi := ?oq1z2q2) (v := ?vq1z2q2) ?hiq1z2q2 ?hsq1z2q2 ?hfq1z2q2 ?hrq1z2q2 ?hQq1z2q2 (Or.inl ⟨?hwq1z2q2, ?hyq1z2q2⟩) ?hSq1z2q2 ?restq1z2q2
                                        case hiq1z2q2 => (simp; rfl)
                                        case hsq1z2q2 => kernel_rfl
                                        case hfq1z2q2 => kernel_rfl
                                        case hrq1z2q2 => kernel_rfl
                                        case hQq1z2q2 => exact fun _ _ _ h => h
                                        case hwq1z2q2 => rfl
                                        case hyq1z2q2 => (intro wq hSq; (try dsimp only at hSq); go_simp; (try with_reducible rfl))
                                        case hSq1z2q2 => assumption
                                        simp only [Act.put, List.setIfInBounds_toArray, List.set_cons_zero, List.set_cons_succ]
                                        refine wpAnyH_take (i := 3) (oi := ?oq1z3q3) (v := ?vq1z3q3) ?hiq1z3q3 ?hsq1z3q3 ?hfq1z3q3 ?hrq1z3q3 ?hQq1z3q3 (Or.inl ⟨?hwq1z3q3, ?hyq1z3q3⟩) ?hSq1z3q3 ?restq1z3q3
                                        case hiq1z3q3 => (simp; rfl)
                                        case hsq1z3q3 => kernel_rfl
                                        case hfq1z3q3 => kernel_rfl
                                        case hrq1z3q3 => kernel_rfl
                                        case hQq1z3q3 => exact fun _ _ _ h => h
                                        case hwq1z3q3 => rfl
                                        case hyq1z3q3 => (intro wq hSq; (try dsimp only at hSq); go_simp; (try with_reducible rfl))
                                        case hSq1z3q3 => assumption
                                        simp only [Act.put, List.setIfInBounds_toArray, List.set_cons_zero, List.set_cons_succ]
                                        refine wpAnyH_take (i := 4) (oi := ?oq1z4q4) (v := ?vq1z4q4) ?hiq1z4q4 ?hsq1z4q4 ?hfq1z4q4 ?hrq1z4q4 ?hQq1z4q4 (Or.inl ⟨?hwq1z4q4, ?hyq1z4q4⟩) ?hSq1z4q4 ?restq1z4q4
                                        case hiq1z4q4 => (simp; rfl)
                                        case hsq1z4q4 => kernel_rfl
                                        case hfq1z4q4 => kernel_rfl
                                        case hrq1z4q4 => kernel_rfl
                                        case hQq1z4q4 => exact fun _ _ _ h => h
                                        case hwq1z4q4 => rfl
                                        case hyq1z4q4 => (intro wq hSq; (try dsimp only at hSq); go_simp; (try with_reducible rfl))
                                        case hSq1z4q4 => assumption
                                        simp only [Act.put, List.setIfInBounds_toArray, List.set_cons_zero, List.set_cons_succ]
                                        refine wpAnyH_take (i := 7) (oi := ?oq1z5q7) (v := ?vq1z5q7) ?hiq1z5q7 ?hsq1z5q7 ?hfq1z5q7 ?hrq1z5q7 ?hQq1z5q7 (Or.inl ⟨?hwq1z5q7, ?hyq1z5q7⟩) ?hSq1z5q7 ?restq1z5q7
                                        case hiq1z5q7 => (simp; rfl)
                                        case hsq1z5q7 => kernel_rfl
                                        case hfq1z5q7 => kernel_rfl
                                        case hrq1z5q7 => kernel_rfl
                                        case hQq1z5q7 => exact fun _ _ _ h => h
                                        case hwq1z5q7 => rfl
                                        case hyq1z5q7 => (intro wq hSq; (try dsimp only at hSq); go_simp; (try with_reducible rfl))
                                        case hSq1z5q7 => assumption
                                        simp only [Act.put, List.setIfInBounds_toArray, List.set_cons_zero, List.set_cons_succ]
                                        apply Lk.mergeH
                                        case m =>
                                          intro q1zkC
                                          apply Lk.mergeH
                                          case m =>
                                            intro q1zkB
                                            apply Lk.mergeH
                                            case m =>
                                              intro q1zkA
                                              refine wpAnyH_ready (rs := [1, 5, 8]) (by kernel_rfl) (by simp) ?_
                                              refine AllReadyH.cons (o := ?oq1z6q) ?hq1z6q (fun K hK => ?rq1z6q) (AllReadyH.cons (o := ?oq1z7q) ?hq1z7q (fun K hK => ?rq1z7q) (AllReadyH.cons (o := ?oq1z8q) ?hq1z8q (fun K hK => ?rq1z8q) AllReadyH.nil))
                                              case hq1z6q => (simp; rfl)
                                              case hq1z7q => (simp; rfl)
                                              case hq1z8q => (simp; rfl)
                                              case rq1z6q =>
                                                go_simp
                                                refine hK.out _ _ (Lk.boxS (HXW.out.below ((Lk.Blk.new2 (Below.refl _ w) _ (g := w.heap.size) rfl).drew.bel))) (fun hHq1z9q => ?_)
                                                clear hK K
                                                refine wpAnyH_ready (rs := [5, 8]) (by kernel_rfl) (by simp) ?_
                                                refine AllReadyH.cons (o := ?oq1z10q) ?hq1z10q (fun K hK => ?rq1z10q) (AllReadyH.cons (o := ?oq1z11q) ?hq1z11q (fun K hK => ?rq1z11q) AllReadyH.nil)
                                                case hq1z10q => (simp; rfl)
                                                case hq1z11q => (simp; rfl)
                                                case rq1z10q =>
                                                  have hc5 := (Lk.belAt ((Lk.belAl (Below.refl _ w) (.cells #[] 71)).drew) 0 HTW.out).trans HCW.out
                                                  go_simp
                                                  clear hc5
                                                  refine hK.out _ _ (Lk.boxS (HXW.out.below ((Lk.Blk.new2 (Below.refl _ w) _ (g := w.heap.size) rfl).drew.bel))) (fun hHq1z12q => ?_)
                                                  clear hK K
                                                  exact q1zkA
                                                case rq1z11q =>
                                                  go_simp
                                                  refine hK.out _ _ (Lk.boxS (HXW.out.below ((Lk.Blk.new2 (Lk.belAl (Below.refl _ w) _) _ (g := w.heap.size + 1) (by simp)).drew.bel))) (fun hHq1z13q => ?_)
                                                  clear hK K
                                                  refine wpAnyH_ready (rs := [5]) (by kernel_rfl) (by simp) ?_
                                                  refine AllReadyH.cons (o := ?oq1z14q) ?hq1z14q (fun K hK => ?rq1z14q) AllReadyH.nil
                                                  case hq1z14q => (simp; rfl)
                                                  case rq1z14q =>
                                                    have hc5 := (Lk.belAt ((Lk.belAl (Lk.belAl (Below.refl _ w) (.cells #[] 71)) (.cells #[Lk.str y.nm, .int .i64 y.ho, .int .i64 y.md] 71)).drew) 0 HTW.out).trans HCW.out
                                                    go_simp
                                                    clear hc5
                                                    refine hK.out _ _ (Lk.boxS (HXW.out.below ((Lk.Blk.new2 (Lk.belAl (Below.refl _ w) _) _ (g := w.heap.size + 1) (by simp)).drew.bel))) (fun hHq1z15q => ?_)
                                                    clear hK K
                                                    exact q1zkB
                                              case rq1z7q =>
                                                have hc5 := (Lk.belAt ((Below.refl _ w).drew) 0 HTW.out).trans HCW.out
                                                go_simp
                                                clear hc5
                                                refine hK.out _ _ (Lk.boxS (HXW.out.below ((Below.refl _ _).drew))) (fun hHq1z16q => ?_)
                                                clear hK K
                                                refine wpAnyH_ready (rs := [1, 8]) (by kernel_rfl) (by simp) ?_
                                                refine AllReadyH.cons (o := ?oq1z17q) ?hq1z17q (fun K hK => ?rq1z17q) (AllReadyH.cons (o := ?oq1z18q) ?hq1z18q (fun K hK => ?rq1z18q) AllReadyH.nil)
                                                case hq1z17q => (simp; rfl)
                                                case hq1z18q => (simp; rfl)
                                                case rq1z17q =>
                                                  go_simp
                                                  refine hK.out _ _ (Lk.boxS (HXW.out.below ((Lk.Blk.new2 (Below.refl _ w) _ (g := w.heap.size) rfl).drew.bel))) (fun hHq1z19q => ?_)
                                                  clear hK K
                                                  exact Lk.wpAnyH_eq (by kernel_rfl) q1zkA
                                                case rq1z18q =>
                                                  go_simp
                                                  refine hK.out _ _ (Lk.boxS (HXW.out.below ((Lk.Blk.new2 (Below.refl _ w) _ (g := w.heap.size) rfl).drew.bel))) (fun hHq1z20q => ?_)
                                                  clear hK K
                                                  refine wpAnyH_ready (rs := [1]) (by kernel_rfl) (by simp) ?_
                                                  refine AllReadyH.cons (o := ?oq1z21q) ?hq1z21q (fun K hK => ?rq1z21q) AllReadyH.nil
                                                  case hq1z21q => (simp; rfl)
                                                  case rq1z21q =>
                                                    go_simp
                                                    refine hK.out _ _ (Lk.boxS (HXW.out.below ((Lk.Blk.new2 (Lk.belAl (Below.refl _ w) _) _ (g := w.heap.size + 1) (by simp)).drew.bel))) (fun hHq1z22q => ?_)
                                                    clear hK K
                                                    exact q1zkC
                                              case rq1z8q =>
                                                go_simp
                                                refine hK.out _ _ (Lk.boxS (HXW.out.below ((Lk.Blk.new2 (Below.refl _ w) _ (g := w.heap.size) rfl).drew.bel))) (fun hHq1z23q => ?_)
                                                clear hK K
                                                refine wpAnyH_ready (rs := [1, 5]) (by kernel_rfl) (by simp) ?_
                                                refine AllReadyH.cons (o := ?oq1z24q) ?hq1z24q (fun K hK => ?rq1z24q) (AllReadyH.cons (o := ?oq1z25q) ?hq1z25q (fun K hK => ?rq1z25q) AllReadyH.nil)
                                                case hq1z24q => (simp; rfl)
                                                case hq1z25q => (simp; rfl)
                                                case rq1z24q =>
                                                  go_simp
                                                  refine hK.out _ _ (Lk.boxS (HXW.out.below ((Lk.Blk.new2 (Lk.belAl (Below.refl _ w) _) _ (g := w.heap.size + 1) (by simp)).drew.bel))) (fun hHq1z26q => ?_)
                                                  clear hK K
                                                  refine wpAnyH_ready (rs := [5]) (by kernel_rfl) (by simp) ?_
                                                  refine AllReadyH.cons (o := ?oq1z27q) ?hq1z27q (fun K hK => ?rq1z27q) AllReadyH.nil
                                                  case hq1z27q => (simp; rfl)
                                                  case rq1z27q =>
                                                    have hc5 := (Lk.belAt ((Lk.belAl (Lk.belAl (Below.refl _ w) (.cells #[Lk.str y.nm, .int .i64 y.ho, .int .i64 y.md] 71)) (.cells #[] 71)).drew) 0 HTW.out).trans HCW.out
                                                    go_simp
                                                    clear hc5
                                                    refine hK.out _ _ (Lk.boxS (HXW.out.below ((Lk.Blk.new2 (Lk.belAl (Below.refl _ w) _) _ (g := w.heap.size + 1) (by simp)).drew.bel))) (fun hHq1z28q => ?_)
                                                    clear hK K
                                                    exact Lk.wpAnyH_eq (by kernel_rfl) q1zkC
                                                case rq1z25q =>
                                                  have hc5 := (Lk.belAt ((Lk.belAl (Below.refl _ w) (.cells #[Lk.str y.nm, .int .i64 y.ho, .int .i64 y.md] 71)).drew) 0 HTW.out).trans HCW.out
                                                  go_simp
                                                  clear hc5
                                                  refine hK.out _ _ (Lk.boxS (HXW.out.below ((Lk.Blk.new2 (Below.refl _ w) _ (g := w.heap.size) rfl).drew.bel))) (fun hHq1z29q => ?_)
                                                  clear hK K
                                                  refine wpAnyH_ready (rs := [1]) (by kernel_rfl) (by simp) ?_
                                                  refine AllReadyH.cons (o := ?oq1z30q) ?hq1z30q (fun K hK => ?rq1z30q) AllReadyH.nil
                                                  case hq1z30q => (simp; rfl)
                                                  case rq1z30q =>
                                                    go_simp
                                                    refine hK.out _ _ (Lk.boxS (HXW.out.below ((Lk.Blk.new2 (Lk.belAl (Below.refl _ w) _) _ (g := w.heap.size + 1) (by simp)).drew.bel))) (fun hHq1z31q => ?_)
                                                    clear hK K
                                                    exact Lk.wpAnyH_eq (by kernel_rfl) q1zkC
                                            case p =>
                                              refine wpAnyH_ready (rs := [6, 8]) (by kernel_rfl) (by simp) ?_
                                              refine AllReadyH.cons (o := ?oq1z32q) ?hq1z32q (fun K hK => ?rq1z32q) (AllReadyH.cons (o := ?oq1z33q) ?hq1z33q (fun K hK => ?rq1z33q) AllReadyH.nil)
                                              case hq1z32q => (simp; rfl)
                                              case hq1z33q => (simp; rfl)
                                              case rq1z32q =>
                                                refine Lk.step_append rfl _ _ 26 rfl w.heap.size 71 iH (.agg #[.string ⟨#[]⟩, .int .i64 0, .int .i64 0]) 3 32 Tryd.underlying26 HIH.out.1 HIH.out.2.1 HIH.out.2.2.1 HIH.out.2.2.2 rfl (by decide) (.slice (some ⟨w.heap.size, 0, none⟩) 0 0) 0 ([]) rfl (((Lk.Blk.new2 (Below.refl _ w) _ (g := w.heap.size) rfl).drew).own) ph2 nh2 ch2 (Lk.cellsH has) rfl (HL32.out.1) (HL32.out.2.1) (HL32.out.2.2.below ((Lk.Blk.new2 (Below.refl _ w) _ (g := w.heap.size) rfl).drew).bel) (Lk.cellsH_one _) (by unfold maxLen; omega) (by omega) ((((Lk.Blk.new2 (Below.refl _ w) _ (g := w.heap.size) rfl).drew).bel).size) ?_
                                                intro v1 W1 hown1 hgrow1
                                                rw [List.nil_append, Nat.zero_add] at hown1
                                                have HB1 := Lk.hid (Lk.belOwn (size := 3) (((Lk.Blk.new2 (Below.refl _ w) _ (g := w.heap.size) rfl).drew).bel) (((Lk.Blk.new2 (Below.refl _ w) _ (g := w.heap.size) rfl).drew).own) (Nat.le_refl _) hgrow1)
                                                have HOWN1 := Lk.hid hown1
                                                clear hown1 hgrow1
                                                refine hK.out _ _ (Lk.boxS (HXW.out.below (HB1.out))) (fun hHq1z34q => ?_)
                                                clear hK K
                                                refine wpAnyH_ready (rs := [8]) (by kernel_rfl) (by simp) ?_
                                                refine AllReadyH.cons (o := ?oq1z35q) ?hq1z35q (fun K hK => ?rq1z35q) AllReadyH.nil
                                                case hq1z35q => (simp; rfl)
                                                case rq1z35q =>
                                                  go_simp
                                                  refine hK.out _ _ (Lk.boxS (HXW.out.below (Lk.belAl HB1.out _))) (fun hHq1z36q => ?_)
                                                  clear hK K
                                                  refine wpAnyH_ready (rs := [9]) (by kernel_rfl) (by simp) ?_
                                                  refine AllReadyH.cons (o := ?oq1z37q) ?hq1z37q (fun K hK => ?rq1z37q) AllReadyH.nil
                                                  case hq1z37q => (simp; rfl)
                                                  case rq1z37q =>
                                                    refine Lk.step_append rfl _ _ 26 rfl w.heap.size 71 iH (.agg #[.string ⟨#[]⟩, .int .i64 0, .int .i64 0]) 3 32 Tryd.underlying26 HIH.out.1 HIH.out.2.1 HIH.out.2.2.1 HIH.out.2.2.2 rfl (by decide) v1 nh2 (Lk.cellsH has) rfl (HOWN1.out.alloc _) (some ⟨W1.heap.size, 0, none⟩) 1 1 (Lk.cellsH [y]) rfl (fun h => nomatch h) (rfl) ((Lk.Blk.new HB1.out _).lies (cs := Lk.cellsH [y])) (Lk.cellsH_one _) (by unfold maxLen; omega) (by omega) ((Lk.belAl HB1.out _).size) ?_
                                                    intro v2 W2 hown2 hgrow2
                                                    have HB2 := Lk.hid (Lk.belOwn (size := 3) (Lk.belAl HB1.out _) (HOWN1.out.alloc _) (Nat.le_refl _) hgrow2)
                                                    have HOWN2 := Lk.hid hown2
                                                    clear hown2 hgrow2
                                                    refine hK.out _ _ (Lk.boxS (HXW.out.below (HB2.out))) (fun hHq1z38q => ?_)
                                                    clear hK K
                                                    refine wpAnyH_take (i := 10) (oi := ?oq1z39q10) (v := ?vq1z39q10) ?hiq1z39q10 ?hsq1z39q10 ?hfq1z39q10 ?hrq1z39q10 ?hQq1z39q10 (Or.inl ⟨?hwq1z39q10, ?hyq1z39q10⟩) ?hSq1z39q10 ?restq1z39q10
                                                    case hiq1z39q10 => (simp; rfl)
                                                    case hsq1z39q10 => kernel_rfl
                                                    case hfq1z39q10 => kernel_rfl
                                                    case hrq1z39q10 => kernel_rfl
                                                    case hQq1z39q10 => exact fun _ _ _ h => h
                                                    case hwq1z39q10 => rfl
                                                    case hyq1z39q10 => (intro wq hSq; (try dsimp only at hSq); go_simp; (try with_reducible rfl))
                                                    case hSq1z39q10 => assumption
                                                    simp only [Act.put, List.setIfInBounds_toArray, List.set_cons_zero, List.set_cons_succ]
                                                    refine wpAnyH_take (i := 11) (oi := ?oq1z40q11) (v := ?vq1z40q11) ?hiq1z40q11 ?hsq1z40q11 ?hfq1z40q11 ?hrq1z40q11 ?hQq1z40q11 (Or.inl ⟨?hwq1z40q11, ?hyq1z40q11⟩) ?hSq1z40q11 ?restq1z40q11
                                                    case hiq1z40q11 => (simp; rfl)
                                                    case hsq1z40q11 => kernel_rfl
                                                    case hfq1z40q11 => kernel_rfl
                                                    case hrq1z40q11 => kernel_rfl
                                                    case hQq1z40q11 => exact fun _ _ _ h => h
                                                    case hwq1z40q11 => rfl
                                                    case hyq1z40q11 => (intro wq hSq; (try dsimp only at hSq); go_simp; (try with_reducible rfl))
                                                    case hSq1z40q11 => assumption
                                                    simp only [Act.put, List.setIfInBounds_toArray, List.set_cons_zero, List.set_cons_succ]
                                                    refine wpAnyH_ready (rs := [12]) (by kernel_rfl) (by simp) ?_
                                                    refine AllReadyH.cons (o := ?oq1z41q) ?hq1z41q (fun K hK => ?rq1z41q) AllReadyH.nil
                                                    case hq1z41q => (simp; rfl)
                                                    case rq1z41q =>
                                                      obtain ⟨pS, cS, rfl, -⟩ := Lk.Sl.own HOWN2.out
                                                      have hcT := (Lk.belAt HB2.out 0 HTW.out).trans HCW.out
                                                      have hfz := HRW.out.frz HB2.out 0
                                                      go_simp
                                                      clear hcT hfz
                                                      refine hK.out _ _ (Lk.boxS ((HXW.out.below HB2.out).set HNE.out 0 _)) (fun hHq1z42q => ?_)
                                                      clear hK K
                                                      refine wpAnyH_done (by kernel_rfl) ?_ _
                                                      have HE4 := Lk.hid (Lk.Ends.store0 (l := has ++ [y]) HC4.out.rm HB2.out (by rw [Lk.cellsH_app]; exact HOWN2.out) (Nat.le_refl _) (by simp [HNH2.out]))
                                                      have HBX5 := Lk.hid (HE4.out.box HXW.out HNE.out)
                                                      obtain ⟨Y5, hC5⟩ := HC4.out.ends HE4.out
                                                      have HC5 := Lk.hid hC5
                                                      clear hC5 HE4 HC4 HXW HB1 HB2 HOWN1 HOWN2 HCW HTW HRW HL32
                                                      obtain ⟨w, hw5⟩ := Lk.nameW HC5
                                                      rw [← hw5] at HC5 HBX5 ⊢
                                                      clear hw5
                                                      have hb1 := HBX5.out.c1
                                                      have hlo : out.length ≤ 800 := by have := HF.out.l2; omega
                                                      have hsz5 : W.heap.size ≤ w.heap.size := HC5.out.gr.size
                                                      have HSZ5 := Lk.hid hsz5
                                                      clear hsz5
                                                      go_wp2_with (first | (at_builtin; refine wpList_append_own_at _ rfl _ _ 37 rfl W.heap.size 3 i0 (.int .i64 0) 1 8 Tryd.underlying37 HI0.out.1 HI0.out.2.1 HI0.out.2.2.1 HI0.out.2.2.2 rfl (by decide) _ _ _ rfl (Lk.ownBelow HC5.out.row (Lk.belAl (Below.refl _ _) _)) ⟨w.heap.size, 0, none⟩ 1 1 [.int .i64 y.ho] rfl rfl (cell_one_new _ _ _) (ints_oneCell .i64 [y.ho]) (by unfold maxLen; omega) (by omega) (by have := HSZ5.out; simp; omega) ?_; intro v' w6 hown' hgrow hnil hloc; have HC6 := Lk.hid (HC5.out.tell hown' hgrow hloc); clear hown' hgrow hnil hloc) | go_in)
                                                      exact ⟨⟨Y5, has ++ [y], A, B, out ++ [y.ho], by rw [← HNA.out], HC6.out, HFG.out⟩, by
                                                        have e1 : Lk.quN T _ = (A ++ B).length := HC6.out.rm.quN
                                                        have e2 := HQN.out
                                                        have e3 := HNQ2.out.2
                                                        have e4 := HNQ2.out.1
                                                        rw [e1, e2, ← e4]
                                                        rw [List.length_append, ← HNA.out]
                                                        simp [RowKit.intOf]; omega⟩
                                              case rq1z33q =>
                                                go_simp
                                                refine hK.out _ _ (Lk.boxS (HXW.out.below ((Lk.Blk.new2 (Lk.belAl (Below.refl _ w) _) _ (g := w.heap.size + 1) (by simp)).drew.bel))) (fun hHq1z43q => ?_)
                                                clear hK K
                                                exact Lk.wpAnyH_eq (by kernel_rfl) q1zkB
                                          case p =>
                                            refine wpAnyH_ready (rs := [6]) (by kernel_rfl) (by simp) ?_
                                            refine AllReadyH.cons (o := ?oq1z44q) ?hq1z44q (fun K hK => ?rq1z44q) AllReadyH.nil
                                            case hq1z44q => (simp; rfl)
                                            case rq1z44q =>
                                              refine Lk.step_append rfl _ _ 26 rfl w.heap.size 71 iH (.agg #[.string ⟨#[]⟩, .int .i64 0, .int .i64 0]) 3 32 Tryd.underlying26 HIH.out.1 HIH.out.2.1 HIH.out.2.2.1 HIH.out.2.2.2 rfl (by decide) (.slice (some ⟨w.heap.size, 0, none⟩) 0 0) 0 ([]) rfl ((((Lk.Blk.new2 (Below.refl _ w) _ (g := w.heap.size) rfl).alloc _).drew).own) ph2 nh2 ch2 (Lk.cellsH has) rfl (HL32.out.1) (HL32.out.2.1) (HL32.out.2.2.below (((Lk.Blk.new2 (Below.refl _ w) _ (g := w.heap.size) rfl).alloc _).drew).bel) (Lk.cellsH_one _) (by unfold maxLen; omega) (by omega) (((((Lk.Blk.new2 (Below.refl _ w) _ (g := w.heap.size) rfl).alloc _).drew).bel).size) ?_
                                              intro v1 W1 hown1 hgrow1
                                              rw [List.nil_append, Nat.zero_add] at hown1
                                              have HB1 := Lk.hid (Lk.belOwn (size := 3) ((((Lk.Blk.new2 (Below.refl _ w) _ (g := w.heap.size) rfl).alloc _).drew).bel) ((((Lk.Blk.new2 (Below.refl _ w) _ (g := w.heap.size) rfl).alloc _).drew).own) (Nat.le_refl _) hgrow1)
                                              have HOWN1 := Lk.hid hown1
                                              have HX1 := Lk.hid (((Lk.Blk.new2 (Lk.belAl (Below.refl _ w) _) _ (g := w.heap.size + 1) (by simp)).drew).grown hgrow1 (by simp [Value.ownBlock]) (fun k hk => by cases hk; exact Nat.le_refl _))
                                              clear hown1 hgrow1
                                              refine hK.out _ _ (Lk.boxS (HXW.out.below (HB1.out))) (fun hHq1z45q => ?_)
                                              clear hK K
                                              refine wpAnyH_ready (rs := [9]) (by kernel_rfl) (by simp) ?_
                                              refine AllReadyH.cons (o := ?oq1z46q) ?hq1z46q (fun K hK => ?rq1z46q) AllReadyH.nil
                                              case hq1z46q => (simp; rfl)
                                              case rq1z46q =>
                                                refine Lk.step_append rfl _ _ 26 rfl w.heap.size 71 iH (.agg #[.string ⟨#[]⟩, .int .i64 0, .int .i64 0]) 3 32 Tryd.underlying26 HIH.out.1 HIH.out.2.1 HIH.out.2.2.1 HIH.out.2.2.2 rfl (by decide) v1 nh2 (Lk.cellsH has) rfl (HOWN1.out) (some ⟨w.heap.size + 1, 0, none⟩) 1 1 (Lk.cellsH [y]) rfl (fun h => nomatch h) (rfl) (HX1.out.lies (cs := Lk.cellsH [y])) (Lk.cellsH_one _) (by unfold maxLen; omega) (by omega) ((HB1.out).size) ?_
                                                intro v2 W2 hown2 hgrow2
                                                have HB2 := Lk.hid (Lk.belOwn (size := 3) (HB1.out) (HOWN1.out) (Nat.le_refl _) hgrow2)
                                                have HOWN2 := Lk.hid hown2
                                                clear hown2 hgrow2
                                                refine hK.out _ _ (Lk.boxS (HXW.out.below (HB2.out))) (fun hHq1z47q => ?_)
                                                clear hK K
                                                refine wpAnyH_take (i := 10) (oi := ?oq1z48q10) (v := ?vq1z48q10) ?hiq1z48q10 ?hsq1z48q10 ?hfq1z48q10 ?hrq1z48q10 ?hQq1z48q10 (Or.inl ⟨?hwq1z48q10, ?hyq1z48q10⟩) ?hSq1z48q10 ?restq1z48q10
                                                case hiq1z48q10 => (simp; rfl)
                                                case hsq1z48q10 => kernel_rfl
                                                case hfq1z48q10 => kernel_rfl
                                                case hrq1z48q10 => kernel_rfl
                                                case hQq1z48q10 => exact fun _ _ _ h => h
                                                case hwq1z48q10 => rfl
                                                case hyq1z48q10 => (intro wq hSq; (try dsimp only at hSq); go_simp; (try with_reducible rfl))
                                                case hSq1z48q10 => assumption
                                                simp only [Act.put, List.setIfInBounds_toArray, List.set_cons_zero, List.set_cons_succ]
                                                refine wpAnyH_take (i := 11) (oi := ?oq1z49q11) (v := ?vq1z49q11) ?hiq1z49q11 ?hsq1z49q11 ?hfq1z49q11 ?hrq1z49q11 ?hQq1z49q11 (Or.inl ⟨?hwq1z49q11, ?hyq1z49q11⟩) ?hSq1z49q11 ?restq1z49q11
                                                case hiq1z49q11 => (simp; rfl)
                                                case hsq1z49q11 => kernel_rfl
                                                case hfq1z49q11 => kernel_rfl
                                                case hrq1z49q11 => kernel_rfl
                                                case hQq1z49q11 => exact fun _ _ _ h => h
                                                case hwq1z49q11 => rfl
                                                case hyq1z49q11 => (intro wq hSq; (try dsimp only at hSq); go_simp; (try with_reducible rfl))
                                                case hSq1z49q11 => assumption
                                                simp only [Act.put, List.setIfInBounds_toArray, List.set_cons_zero, List.set_cons_succ]
                                                refine wpAnyH_ready (rs := [12]) (by kernel_rfl) (by simp) ?_
                                                refine AllReadyH.cons (o := ?oq1z50q) ?hq1z50q (fun K hK => ?rq1z50q) AllReadyH.nil
                                                case hq1z50q => (simp; rfl)
                                                case rq1z50q =>
                                                  obtain ⟨pS, cS, rfl, -⟩ := Lk.Sl.own HOWN2.out
                                                  have hcT := (Lk.belAt HB2.out 0 HTW.out).trans HCW.out
                                                  have hfz := HRW.out.frz HB2.out 0
                                                  go_simp
                                                  clear hcT hfz
                                                  refine hK.out _ _ (Lk.boxS ((HXW.out.below HB2.out).set HNE.out 0 _)) (fun hHq1z51q => ?_)
                                                  clear hK K
                                                  refine wpAnyH_done (by kernel_rfl) ?_ _
                                                  have HE4 := Lk.hid (Lk.Ends.store0 (l := has ++ [y]) HC4.out.rm HB2.out (by rw [Lk.cellsH_app]; exact HOWN2.out) (Nat.le_refl _) (by simp [HNH2.out]))
                                                  have HBX5 := Lk.hid (HE4.out.box HXW.out HNE.out)
                                                  obtain ⟨Y5, hC5⟩ := HC4.out.ends HE4.out
                                                  have HC5 := Lk.hid hC5
                                                  clear hC5 HE4 HC4 HXW HB1 HB2 HOWN1 HOWN2 HCW HTW HRW HL32
                                                  obtain ⟨w, hw5⟩ := Lk.nameW HC5
                                                  rw [← hw5] at HC5 HBX5 ⊢
                                                  clear hw5
                                                  have hb1 := HBX5.out.c1
                                                  have hlo : out.length ≤ 800 := by have := HF.out.l2; omega
                                                  have hsz5 : W.heap.size ≤ w.heap.size := HC5.out.gr.size
                                                  have HSZ5 := Lk.hid hsz5
                                                  clear hsz5
                                                  go_wp2_with (first | (at_builtin; refine wpList_append_own_at _ rfl _ _ 37 rfl W.heap.size 3 i0 (.int .i64 0) 1 8 Tryd.underlying37 HI0.out.1 HI0.out.2.1 HI0.out.2.2.1 HI0.out.2.2.2 rfl (by decide) _ _ _ rfl (Lk.ownBelow HC5.out.row (Lk.belAl (Below.refl _ _) _)) ⟨w.heap.size, 0, none⟩ 1 1 [.int .i64 y.ho] rfl rfl (cell_one_new _ _ _) (ints_oneCell .i64 [y.ho]) (by unfold maxLen; omega) (by omega) (by have := HSZ5.out; simp; omega) ?_; intro v' w6 hown' hgrow hnil hloc; have HC6 := Lk.hid (HC5.out.tell hown' hgrow hloc); clear hown' hgrow hnil hloc) | go_in)
                                                  exact ⟨⟨Y5, has ++ [y], A, B, out ++ [y.ho], by rw [← HNA.out], HC6.out, HFG.out⟩, by
                                                    have e1 : Lk.quN T _ = (A ++ B).length := HC6.out.rm.quN
                                                    have e2 := HQN.out
                                                    have e3 := HNQ2.out.2
                                                    have e4 := HNQ2.out.1
                                                    rw [e1, e2, ← e4]
                                                    rw [List.length_append, ← HNA.out]
                                                    simp [RowKit.intOf]; omega⟩
                                        case p =>
                                          refine wpAnyH_ready (rs := [6]) (by kernel_rfl) (by simp) ?_
                                          refine AllReadyH.cons (o := ?oq1z52q) ?hq1z52q (fun K hK => ?rq1z52q) AllReadyH.nil
                                          case hq1z52q => (simp; rfl)
                                          case rq1z52q =>
                                            refine Lk.step_append rfl _ _ 26 rfl w.heap.size 71 iH (.agg #[.string ⟨#[]⟩, .int .i64 0, .int .i64 0]) 3 32 Tryd.underlying26 HIH.out.1 HIH.out.2.1 HIH.out.2.2.1 HIH.out.2.2.2 rfl (by decide) (.slice (some ⟨w.heap.size + 1, 0, none⟩) 0 0) 0 ([]) rfl (((Lk.Blk.new2 (Lk.belAl (Below.refl _ w) _) _ (g := w.heap.size + 1) (by simp)).drew).own) ph2 nh2 ch2 (Lk.cellsH has) rfl (HL32.out.1) (HL32.out.2.1) (HL32.out.2.2.below ((Lk.Blk.new2 (Lk.belAl (Below.refl _ w) _) _ (g := w.heap.size + 1) (by simp)).drew).bel) (Lk.cellsH_one _) (by unfold maxLen; omega) (by omega) ((((Lk.Blk.new2 (Lk.belAl (Below.refl _ w) _) _ (g := w.heap.size + 1) (by simp)).drew).bel).size) ?_
                                            intro v1 W1 hown1 hgrow1
                                            rw [List.nil_append, Nat.zero_add] at hown1
                                            have HB1 := Lk.hid (Lk.belOwn (size := 3) (((Lk.Blk.new2 (Lk.belAl (Below.refl _ w) _) _ (g := w.heap.size + 1) (by simp)).drew).bel) (((Lk.Blk.new2 (Lk.belAl (Below.refl _ w) _) _ (g := w.heap.size + 1) (by simp)).drew).own) (Nat.le_refl _) hgrow1)
                                            have HOWN1 := Lk.hid hown1
                                            have HX1 := Lk.hid ((((Lk.Blk.new2 (Below.refl _ w) _ (g := w.heap.size) rfl).alloc _).drew).grown hgrow1 (by simp [Value.ownBlock]) (fun k hk => by cases hk; simp))
                                            clear hown1 hgrow1
                                            refine hK.out _ _ (Lk.boxS (HXW.out.below (HB1.out))) (fun hHq1z53q => ?_)
                                            clear hK K
                                            refine wpAnyH_ready (rs := [9]) (by kernel_rfl) (by simp) ?_
                                            refine AllReadyH.cons (o := ?oq1z54q) ?hq1z54q (fun K hK => ?rq1z54q) AllReadyH.nil
                                            case hq1z54q => (simp; rfl)
                                            case rq1z54q =>
                                              refine Lk.step_append rfl _ _ 26 rfl w.heap.size 71 iH (.agg #[.string ⟨#[]⟩, .int .i64 0, .int .i64 0]) 3 32 Tryd.underlying26 HIH.out.1 HIH.out.2.1 HIH.out.2.2.1 HIH.out.2.2.2 rfl (by decide) v1 nh2 (Lk.cellsH has) rfl (HOWN1.out) (some ⟨w.heap.size, 0, none⟩) 1 1 (Lk.cellsH [y]) rfl (fun h => nomatch h) (rfl) (HX1.out.lies (cs := Lk.cellsH [y])) (Lk.cellsH_one _) (by unfold maxLen; omega) (by omega) ((HB1.out).size) ?_
                                              intro v2 W2 hown2 hgrow2
                                              have HB2 := Lk.hid (Lk.belOwn (size := 3) (HB1.out) (HOWN1.out) (Nat.le_refl _) hgrow2)
                                              have HOWN2 := Lk.hid hown2
                                              clear hown2 hgrow2
                                              refine hK.out _ _ (Lk.boxS (HXW.out.below (HB2.out))) (fun hHq1z55q => ?_)
                                              clear hK K
                                              refine wpAnyH_take (i := 10) (oi := ?oq1z56q10) (v := ?vq1z56q10) ?hiq1z56q10 ?hsq1z56q10 ?hfq1z56q10 ?hrq1z56q10 ?hQq1z56q10 (Or.inl ⟨?hwq1z56q10, ?hyq1z56q10⟩) ?hSq1z56q10 ?restq1z56q10
                                              case hiq1z56q10 => (simp; rfl)
                                              case hsq1z56q10 => kernel_rfl
                                              case hfq1z56q10 => kernel_rfl
                                              case hrq1z56q10 => kernel_rfl
                                              case hQq1z56q10 => exact fun _ _ _ h => h
                                              case hwq1z56q10 => rfl
                                              case hyq1z56q10 => (intro wq hSq; (try dsimp only at hSq); go_simp; (try with_reducible rfl))
                                              case hSq1z56q10 => assumption
                                              simp only [Act.put, List.setIfInBounds_toArray, List.set_cons_zero, List.set_cons_succ]
                                              refine wpAnyH_take (i := 11) (oi := ?oq1z57q11) (v := ?vq1z57q11) ?hiq1z57q11 ?hsq1z57q11 ?hfq1z57q11 ?hrq1z57q11 ?hQq1z57q11 (Or.inl ⟨?hwq1z57q11, ?hyq1z57q11⟩) ?hSq1z57q11 ?restq1z57q11
                                              case hiq1z57q11 => (simp; rfl)
                                              case hsq1z57q11 => kernel_rfl
                                              case hfq1z57q11 => kernel_rfl
                                              case hrq1z57q11 => kernel_rfl
                                              case hQq1z57q11 => exact fun _ _ _ h => h
                                              case hwq1z57q11 => rfl
                                              case hyq1z57q11 => (intro wq hSq; (try dsimp only at hSq); go_simp; (try with_reducible rfl))
                                              case hSq1z57q11 => assumption
                                              simp only [Act.put, List.setIfInBounds_toArray, List.set_cons_zero, List.set_cons_succ]
                                              refine wpAnyH_ready (rs := [12]) (by kernel_rfl) (by simp) ?_
                                              refine AllReadyH.cons (o := ?oq1z58q) ?hq1z58q (fun K hK => ?rq1z58q) AllReadyH.nil
                                              case hq1z58q => (simp; rfl)
                                              case rq1z58q =>
                                                obtain ⟨pS, cS, rfl, -⟩ := Lk.Sl.own HOWN2.out
                                                have hcT := (Lk.belAt HB2.out 0 HTW.out).trans HCW.out
                                                have hfz := HRW.out.frz HB2.out 0
                                                go_simp
                                                clear hcT hfz
                                                refine hK.out _ _ (Lk.boxS ((HXW.out.below HB2.out).set HNE.out 0 _)) (fun hHq1z59q => ?_)
                                                clear hK K
                                                refine wpAnyH_done (by kernel_rfl) ?_ _
                                                have HE4 := Lk.hid (Lk.Ends.store0 (l := has ++ [y]) HC4.out.rm HB2.out (by rw [Lk.cellsH_app]; exact HOWN2.out) (Nat.le_refl _) (by simp [HNH2.out]))
                                                have HBX5 := Lk.hid (HE4.out.box HXW.out HNE.out)
                                                obtain ⟨Y5, hC5⟩ := HC4.out.ends HE4.out
                                                have HC5 := Lk.hid hC5
                                                clear hC5 HE4 HC4 HXW HB1 HB2 HOWN1 HOWN2 HCW HTW HRW HL32
                                                obtain ⟨w, hw5⟩ := Lk.nameW HC5
                                                rw [← hw5] at HC5 HBX5 ⊢
                                                clear hw5
                                                have hb1 := HBX5.out.c1
                                                have hlo : out.length ≤ 800 := by have := HF.out.l2; omega
                                                have hsz5 : W.heap.size ≤ w.heap.size := HC5.out.gr.size
                                                have HSZ5 := Lk.hid hsz5
                                                clear hsz5
                                                go_wp2_with (first | (at_builtin; refine wpList_append_own_at _ rfl _ _ 37 rfl W.heap.size 3 i0 (.int .i64 0) 1 8 Tryd.underlying37 HI0.out.1 HI0.out.2.1 HI0.out.2.2.1 HI0.out.2.2.2 rfl (by decide) _ _ _ rfl (Lk.ownBelow HC5.out.row (Lk.belAl (Below.refl _ _) _)) ⟨w.heap.size, 0, none⟩ 1 1 [.int .i64 y.ho] rfl rfl (cell_one_new _ _ _) (ints_oneCell .i64 [y.ho]) (by unfold maxLen; omega) (by omega) (by have := HSZ5.out; simp; omega) ?_; intro v' w6 hown' hgrow hnil hloc; have HC6 := Lk.hid (HC5.out.tell hown' hgrow hloc); clear hown' hgrow hnil hloc) | go_in)
                                                exact ⟨⟨Y5, has ++ [y], A, B, out ++ [y.ho], by rw [← HNA.out], HC6.out, HFG.out⟩, by
                                                  have e1 : Lk.quN T _ = (A ++ B).length := HC6.out.rm.quN
                                                  have e2 := HQN.out
                                                  have e3 := HNQ2.out.2
                                                  have e4 := HNQ2.out.1
                                                  rw [e1, e2, ← e4]
                                                  rw [List.length_append, ← HNA.out]
                                                  simp [RowKit.intOf]; omega⟩
                                case rp46q =>
                                  have hc5 := (Lk.belAt ((Lk.belAl (Below.refl _ w) (.cells #[] 71)).drew) 1 HTW.out).trans HCB3.out
                                  go_simp
                                  clear hc5
                                  refine hK.out _ _ (trivial) (fun hHp57q => ?_)
                                  clear hK K
                                  refine wpAnyH_take (i := 15) (oi := ?op58q15) (v := ?vp58q15) ?hip58q15 ?hsp58q15 ?hfp58q15 ?hrp58q15 ?hQp58q15 (Or.inl ⟨?hwp58q15, ?hyp58q15⟩) ?hSp58q15 ?restp58q15
                                  case hip58q15 => (simp; rfl)
                                  case hsp58q15 => kernel_rfl
                                  case hfp58q15 => kernel_rfl
                                  case hrp58q15 => kernel_rfl
                                  case hQp58q15 => exact fun _ _ _ h => h
                                  case hwp58q15 => rfl
                                  case hyp58q15 => (intro wq hSq; (try dsimp only at hSq); go_simp; (try with_reducible rfl))
                                  case hSp58q15 => assumption
                                  simp only [Act.put, List.setIfInBounds_toArray, List.set_cons_zero, List.set_cons_succ]
                                  exact Lk.wpAnyH_eq (by kernel_rfl) pkB
                            case p =>
                              refine wpAnyH_ready (rs := [8]) (by kernel_rfl) (by simp) ?_
                              refine AllReadyH.cons (o := ?op59q) ?hp59q (fun K hK => ?rp59q) AllReadyH.nil
                              case hp59q => (simp; rfl)
                              case rp59q =>
                                refine Lk.step_append rfl _ _ 26 rfl w.heap.size 71 iH (.agg #[.string ⟨#[]⟩, .int .i64 0, .int .i64 0]) 3 32 Tryd.underlying26 HIH.out.1 HIH.out.2.1 HIH.out.2.2.1 HIH.out.2.2.2 rfl (by decide) (.slice (some ⟨w.heap.size, 0, none⟩) 0 0) 0 ([]) rfl ((Lk.Blk.new2 (Below.refl _ w) _ (g := w.heap.size) rfl).drew.own) (some ⟨b, 0, none⟩) nA cb (Lk.cellsH A) rfl (fun h => nomatch h) (HA31.out.1) (HA31.out.2.1.below (Lk.Blk.new2 (Below.refl _ w) _ (g := w.heap.size) rfl).drew.bel) (Lk.cellsH_one _) (by unfold maxLen; omega) (by omega) (((Lk.Blk.new2 (Below.refl _ w) _ (g := w.heap.size) rfl).drew.bel).size) ?_
                                intro v1 W1 hown1 hgrow1
                                rw [List.nil_append, Nat.zero_add] at hown1
                                have HB1 := Lk.hid (Lk.belOwn (size := 3) ((Lk.Blk.new2 (Below.refl _ w) _ (g := w.heap.size) rfl).drew.bel) ((Lk.Blk.new2 (Below.refl _ w) _ (g := w.heap.size) rfl).drew.own) (Nat.le_refl _) hgrow1)
                                have HOWN1 := Lk.hid hown1
                                clear hown1 hgrow1
                                refine hK.out _ _ (trivial) (fun hHp60q => ?_)
                                clear hK K
                                refine wpAnyH_ready (rs := [16]) (by kernel_rfl) (by simp) ?_
                                refine AllReadyH.cons (o := ?op61q) ?hp61q (fun K hK => ?rp61q) AllReadyH.nil
                                case hp61q => (simp; rfl)
                                case rp61q =>
                                  refine Lk.step_append rfl _ _ 26 rfl w.heap.size 71 iH (.agg #[.string ⟨#[]⟩, .int .i64 0, .int .i64 0]) 3 32 Tryd.underlying26 HIH.out.1 HIH.out.2.1 HIH.out.2.2.1 HIH.out.2.2.2 rfl (by decide) v1 nA (Lk.cellsH A) rfl (HOWN1.out) _ _ _ (Lk.cellsH B) rfl (fun h => by split at h <;> cases h) (by have := HA31.out.2.2.1; first | exact this | simpa using this) (HA31.out.2.2.2.below HB1.out) (Lk.cellsH_one _) (by unfold maxLen; omega) (by omega) ((HB1.out).size) ?_
                                  intro v3 W3 hown3 hgrow3
                                  have HB3 := Lk.hid (Lk.belOwn (size := 3) (HB1.out) (HOWN1.out) (Nat.le_refl _) hgrow3)
                                  have HOWN3 := Lk.hid hown3
                                  clear hown3 hgrow3
                                  refine hK.out _ _ (trivial) (fun hHp62q => ?_)
                                  clear hK K
                                  refine wpAnyH_take (i := 17) (oi := ?op63q17) (v := ?vp63q17) ?hip63q17 ?hsp63q17 ?hfp63q17 ?hrp63q17 ?hQp63q17 (Or.inl ⟨?hwp63q17, ?hyp63q17⟩) ?hSp63q17 ?restp63q17
                                  case hip63q17 => (simp; rfl)
                                  case hsp63q17 => kernel_rfl
                                  case hfp63q17 => kernel_rfl
                                  case hrp63q17 => kernel_rfl
                                  case hQp63q17 => exact fun _ _ _ h => h
                                  case hwp63q17 => rfl
                                  case hyp63q17 => (intro wq hSq; (try dsimp only at hSq); go_simp; (try with_reducible rfl))
                                  case hSp63q17 => assumption
                                  simp only [Act.put, List.setIfInBounds_toArray, List.set_cons_zero, List.set_cons_succ]
                                  refine wpAnyH_take (i := 18) (oi := ?op64q18) (v := ?vp64q18) ?hip64q18 ?hsp64q18 ?hfp64q18 ?hrp64q18 ?hQp64q18 (Or.inl ⟨?hwp64q18, ?hyp64q18⟩) ?hSp64q18 ?restp64q18
                                  case hip64q18 => (simp; rfl)
                                  case hsp64q18 => kernel_rfl
                                  case hfp64q18 => kernel_rfl
                                  case hrp64q18 => kernel_rfl
                                  case hQp64q18 => exact fun _ _ _ h => h
                                  case hwp64q18 => rfl
                                  case hyp64q18 => (intro wq hSq; (try dsimp only at hSq); go_simp; (try with_reducible rfl))
                                  case hSp64q18 => assumption
                                  simp only [Act.put, List.setIfInBounds_toArray, List.set_cons_zero, List.set_cons_succ]
                                  refine wpAnyH_ready (rs := [19]) (by kernel_rfl) (by simp) ?_
                                  refine AllReadyH.cons (o := ?op65q) ?hp65q (fun K hK => ?rp65q) AllReadyH.nil
                                  case hp65q => (simp; rfl)
                                  case rp65q =>
                                    obtain ⟨pS, cS, rfl, -⟩ := Lk.Sl.own HOWN3.out
                                    have hcT := (Lk.belAt HB3.out 1 HTW.out).trans HCB3.out
                                    have hfz := HC3.out.rm.frz HB3.out 1
                                    go_simp
                                    clear hcT hfz
                                    refine hK.out _ _ (trivial) (fun hHp66q => ?_)
                                    clear hK K
                                    refine wpAnyH_done (by kernel_rfl) ?_ _
                                    generalize (if cb = nA + 1 then (some (⟨b, 0, none⟩ : Addr)) else some ⟨b, (nA + 1) * 3, none⟩) = pz
                                    have HE3 := Lk.hid (Lk.Ends.store1 (l := A ++ B) HC3.out.rm HB3.out (by rw [Lk.cellsH_app]; exact HOWN3.out) (Nat.le_refl _) (by have := HNQ2.out.2; have := HNA.out; simp; omega))
                                    have HBX4 := Lk.hid (HE3.out.box HXB.out (by have := HC3.out.tw; have := HC3.out.gr.size; have := HTR.out; omega))
                                    obtain ⟨Y4, hC4⟩ := HC3.out.ends HE3.out
                                    have HC4 := Lk.hid hC4
                                    clear hC4 HE3 HOWN1 HOWN3 HB1 HB3 HXB HA31 HTW HCB3 HC3
                                    obtain ⟨w, hw4⟩ := Lk.nameW HC4
                                    rw [← hw4] at HC4 HBX4 ⊢
                                    clear hw4
                                    go_wp2_with fail
                                    obtain ⟨ph2, ch2, hcw, hin2, -, hnil2, -⟩ := HC4.out.rm.has
                                    dsimp only at hcw hin2 hnil2
                                    obtain ⟨nh2, hnh2⟩ : ∃ nh2, nh2 = has.length := ⟨_, rfl⟩
                                    rw [← hnh2] at hcw hnil2
                                    have HNH2 := Lk.hid hnh2
                                    have HCW := Lk.hid hcw
                                    have HL32 : Hid ((ph2 = none → nh2 = 0 ∧ ch2 = 0) ∧ (Lk.cellsH has).length = nh2 * 3 ∧ Lk.Lies w ph2 (Lk.cellsH has)) := Lk.hid ⟨hnil2, by rw [Lk.cellsH_length, hnh2], hin2⟩
                                    have hnh3 : nh2 ≤ 1000 := by rw [hnh2]; exact HLN9.out.1
                                    have HXW := HBX4
                                    have HTW : Hid (T < w.heap.size) := Lk.hid HC4.out.rm.lt
                                    have HRW := Lk.hid HC4.out.rm
                                    have HNE : Hid (wr.heap.size ≠ T) := Lk.hid (by have := HTR.out; omega)
                                    clear hcw hin2 hnil2 hnh2 HBX4
                                    refine wp_region_held_drew (S := (fun w' => w'.cell? ⟨wr.heap.size, 0, none⟩ = some (Lk.str y.nm) ∧ w'.cell? ⟨wr.heap.size, 1, none⟩ = some (.int .i64 y.ho) ∧ w'.cell? ⟨wr.heap.size, 2, none⟩ = some (.int .i64 y.md))) (by kernel_rfl) (Lk.boxS (HXW.out.below (Below.refl _ _).drew)) (fun hH => ?_)
                                    refine wpAnyH_take (i := 0) (oi := ?oq2z1q0) (v := ?vq2z1q0) ?hiq2z1q0 ?hsq2z1q0 ?hfq2z1q0 ?hrq2z1q0 ?hQq2z1q0 (Or.inl ⟨?hwq2z1q0, ?hyq2z1q0⟩) ?hSq2z1q0 ?restq2z1q0
                                    case hiq2z1q0 => (simp; rfl)
                                    case hsq2z1q0 => kernel_rfl
                                    case hfq2z1q0 => kernel_rfl
                                    case hrq2z1q0 => kernel_rfl
                                    case hQq2z1q0 => exact fun _ _ _ h => h
                                    case hwq2z1q0 => rfl
                                    case hyq2z1q0 => (intro wq hSq; (try dsimp only at hSq); go_simp; (try with_reducible rfl))
                                    case hSq2z1q0 => assumption
                                    simp only [Act.put, List.setIfInBounds_toArray, List.set_cons_zero, List.set_cons_succ]
                                    refine wpAnyH_take (i := 2) (oi := ?oq2z2q2) (v := ?vq2z2q2) ?hiq2z2q2 ?hsq2z2q2 ?hfq2z2q2 ?hrq2z2q2 ?hQq2z2q2 (Or.inl ⟨?hwq2z2q2, ?hyq2z2q2⟩) ?hSq2z2q2 ?restq2z2q2
                                    case hiq2z2q2 => (simp; rfl)
                                    case hsq2z2q2 => kernel_rfl
                                    case hfq2z2q2 => kernel_rfl
                                    case hrq2z2q2 => kernel_rfl
                                    case hQq2z2q2 => exact fun _ _ _ h => h
                                    case hwq2z2q2 => rfl
                                    case hyq2z2q2 => (intro wq hSq; (try dsimp only at hSq); go_simp; (try with_reducible rfl))
                                    case hSq2z2q2 => assumption
                                    simp only [Act.put, List.setIfInBounds_toArray, List.set_cons_zero, List.set_cons_succ]
                                    refine wpAnyH_take (i := 3) (oi := ?oq2z3q3) (v := ?vq2z3q3) ?hiq2z3q3 ?hsq2z3q3 ?hfq2z3q3 ?hrq2z3q3 ?hQq2z3q3 (Or.inl ⟨?hwq2z3q3, ?hyq2z3q3⟩) ?hSq2z3q3 ?restq2z3q3
                                    case hiq2z3q3 => (simp; rfl)
                                    case hsq2z3q3 => kernel_rfl
                                    case hfq2z3q3 => kernel_rfl
                                    case hrq2z3q3 => kernel_rfl
                                    case hQq2z3q3 => exact fun _ _ _ h => h
                                    case hwq2z3q3 => rfl
                                    case hyq2z3q3 => (intro wq hSq; (try dsimp only at hSq); go_simp; (try with_reducible rfl))
                                    case hSq2z3q3 => assumption
                                    simp only [Act.put, List.setIfInBounds_toArray, List.set_cons_zero, List.set_cons_succ]
                                    refine wpAnyH_take (i := 4) (oi := ?oq2z4q4) (v := ?vq2z4q4) ?hiq2z4q4 ?hsq2z4q4 ?hfq2z4q4 ?hrq2z4q4 ?hQq2z4q4 (Or.inl ⟨?hwq2z4q4, ?hyq2z4q4⟩) ?hSq2z4q4 ?restq2z4q4
                                    case hiq2z4q4 => (simp; rfl)
                                    case hsq2z4q4 => kernel_rfl
                                    case hfq2z4q4 => kernel_rfl
                                    case hrq2z4q4 => kernel_rfl
                                    case hQq2z4q4 => exact fun _ _ _ h => h
                                    case hwq2z4q4 => rfl
                                    case hyq2z4q4 => (intro wq hSq; (try dsimp only at hSq); go_simp; (try with_reducible rfl))
                                    case hSq2z4q4 => assumption
                                    simp only [Act.put, List.setIfInBounds_toArray, List.set_cons_zero, List.set_cons_succ]
                                    refine wpAnyH_take (i := 7) (oi := ?oq2z5q7) (v := ?vq2z5q7) ?hiq2z5q7 ?hsq2z5q7 ?hfq2z5q7 ?hrq2z5q7 ?hQq2z5q7 (Or.inl ⟨?hwq2z5q7, ?hyq2z5q7⟩) ?hSq2z5q7 ?restq2z5q7
                                    case hiq2z5q7 => (simp; rfl)
                                    case hsq2z5q7 => kernel_rfl
                                    case hfq2z5q7 => kernel_rfl
                                    case hrq2z5q7 => kernel_rfl
                                    case hQq2z5q7 => exact fun _ _ _ h => h
                                    case hwq2z5q7 => rfl
                                    case hyq2z5q7 => (intro wq hSq; (try dsimp only at hSq); go_simp; (try with_reducible rfl))
                                    case hSq2z5q7 => assumption
                                    simp only [Act.put, List.setIfInBounds_toArray, List.set_cons_zero, List.set_cons_succ]
                                    apply Lk.mergeH
                                    case m =>
                                      intro q2zkC
                                      apply Lk.mergeH
                                      case m =>
                                        intro q2zkB
                                        apply Lk.mergeH
                                        case m =>
                                          intro q2zkA
                                          refine wpAnyH_ready (rs := [1, 5, 8]) (by kernel_rfl) (by simp) ?_
                                          refine AllReadyH.cons (o := ?oq2z6q) ?hq2z6q (fun K hK => ?rq2z6q) (AllReadyH.cons (o := ?oq2z7q) ?hq2z7q (fun K hK => ?rq2z7q) (AllReadyH.cons (o := ?oq2z8q) ?hq2z8q (fun K hK => ?rq2z8q) AllReadyH.nil))
                                          case hq2z6q => (simp; rfl)
                                          case hq2z7q => (simp; rfl)
                                          case hq2z8q => (simp; rfl)
                                          case rq2z6q =>
                                            go_simp
                                            refine hK.out _ _ (Lk.boxS (HXW.out.below ((Lk.Blk.new2 (Below.refl _ w) _ (g := w.heap.size) rfl).drew.bel))) (fun hHq2z9q => ?_)
                                            clear hK K
                                            refine wpAnyH_ready (rs := [5, 8]) (by kernel_rfl) (by simp) ?_
                                            refine AllReadyH.cons (o := ?oq2z10q) ?hq2z10q (fun K hK => ?rq2z10q) (AllReadyH.cons (o := ?oq2z11q) ?hq2z11q (fun K hK => ?rq2z11q) AllReadyH.nil)
                                            case hq2z10q => (simp; rfl)
                                            case hq2z11q => (simp; rfl)
                                            case rq2z10q =>
                                              have hc5 := (Lk.belAt ((Lk.belAl (Below.refl _ w) (.cells #[] 71)).drew) 0 HTW.out).trans HCW.out
                                              go_simp
                                              clear hc5
                                              refine hK.out _ _ (Lk.boxS (HXW.out.below ((Lk.Blk.new2 (Below.refl _ w) _ (g := w.heap.size) rfl).drew.bel))) (fun hHq2z12q => ?_)
                                              clear hK K
                                              exact q2zkA
                                            case rq2z11q =>
                                              go_simp
                                              refine hK.out _ _ (Lk.boxS (HXW.out.below ((Lk.Blk.new2 (Lk.belAl (Below.refl _ w) _) _ (g := w.heap.size + 1) (by simp)).drew.bel))) (fun hHq2z13q => ?_)
                                              clear hK K
                                              refine wpAnyH_ready (rs := [5]) (by kernel_rfl) (by simp) ?_
                                              refine AllReadyH.cons (o := ?oq2z14q) ?hq2z14q (fun K hK => ?rq2z14q) AllReadyH.nil
                                              case hq2z14q => (simp; rfl)
                                              case rq2z14q =>
                                                have hc5 := (Lk.belAt ((Lk.belAl (Lk.belAl (Below.refl _ w) (.cells #[] 71)) (.cells #[Lk.str y.nm, .int .i64 y.ho, .int .i64 y.md] 71)).drew) 0 HTW.out).trans HCW.out
                                                go_simp
                                                clear hc5
                                                refine hK.out _ _ (Lk.boxS (HXW.out.below ((Lk.Blk.new2 (Lk.belAl (Below.refl _ w) _) _ (g := w.heap.size + 1) (by simp)).drew.bel))) (fun hHq2z15q => ?_)
                                                clear hK K
                                                exact q2zkB
                                          case rq2z7q =>
                                            have hc5 := (Lk.belAt ((Below.refl _ w).drew) 0 HTW.out).trans HCW.out
                                            go_simp
                                            clear hc5
                                            refine hK.out _ _ (Lk.boxS (HXW.out.below ((Below.refl _ _).drew))) (fun hHq2z16q => ?_)
                                            clear hK K
                                            refine wpAnyH_ready (rs := [1, 8]) (by kernel_rfl) (by simp) ?_
                                            refine AllReadyH.cons (o := ?oq2z17q) ?hq2z17q (fun K hK => ?rq2z17q) (AllReadyH.cons (o := ?oq2z18q) ?hq2z18q (fun K hK => ?rq2z18q) AllReadyH.nil)
                                            case hq2z17q => (simp; rfl)
                                            case hq2z18q => (simp; rfl)
                                            case rq2z17q =>
                                              go_simp
                                              refine hK.out _ _ (Lk.boxS (HXW.out.below ((Lk.Blk.new2 (Below.refl _ w) _ (g := w.heap.size) rfl).drew.bel))) (fun hHq2z19q => ?_)
                                              clear hK K
                                              exact Lk.wpAnyH_eq (by kernel_rfl) q2zkA
                                            case rq2z18q =>
                                              go_simp
                                              refine hK.out _ _ (Lk.boxS (HXW.out.below ((Lk.Blk.new2 (Below.refl _ w) _ (g := w.heap.size) rfl).drew.bel))) (fun hHq2z20q => ?_)
                                              clear hK K
                                              refine wpAnyH_ready (rs := [1]) (by kernel_rfl) (by simp) ?_
                                              refine AllReadyH.cons (o := ?oq2z21q) ?hq2z21q (fun K hK => ?rq2z21q) AllReadyH.nil
                                              case hq2z21q => (simp; rfl)
                                              case rq2z21q =>
                                                go_simp
                                                refine hK.out _ _ (Lk.boxS (HXW.out.below ((Lk.Blk.new2 (Lk.belAl (Below.refl _ w) _) _ (g := w.heap.size + 1) (by simp)).drew.bel))) (fun hHq2z22q => ?_)
                                                clear hK K
                                                exact q2zkC
                                          case rq2z8q =>
                                            go_simp
                                            refine hK.out _ _ (Lk.boxS (HXW.out.below ((Lk.Blk.new2 (Below.refl _ w) _ (g := w.heap.size) rfl).drew.bel))) (fun hHq2z23q => ?_)
                                            clear hK K
                                            refine wpAnyH_ready (rs := [1, 5]) (by kernel_rfl) (by simp) ?_
                                            refine AllReadyH.cons (o := ?oq2z24q) ?hq2z24q (fun K hK => ?rq2z24q) (AllReadyH.cons (o := ?oq2z25q) ?hq2z25q (fun K hK => ?rq2z25q) AllReadyH.nil)
                                            case hq2z24q => (simp; rfl)
                                            case hq2z25q => (simp; rfl)
                                            case rq2z24q =>
                                              go_simp
                                              refine hK.out _ _ (Lk.boxS (HXW.out.below ((Lk.Blk.new2 (Lk.belAl (Below.refl _ w) _) _ (g := w.heap.size + 1) (by simp)).drew.bel))) (fun hHq2z26q => ?_)
                                              clear hK K
                                              refine wpAnyH_ready (rs := [5]) (by kernel_rfl) (by simp) ?_
                                              refine AllReadyH.cons (o := ?oq2z27q) ?hq2z27q (fun K hK => ?rq2z27q) AllReadyH.nil
                                              case hq2z27q => (simp; rfl)
                                              case rq2z27q =>
                                                have hc5 := (Lk.belAt ((Lk.belAl (Lk.belAl (Below.refl _ w) (.cells #[Lk.str y.nm, .int .i64 y.ho, .int .i64 y.md] 71)) (.cells #[] 71)).drew) 0 HTW.out).trans HCW.out
                                                go_simp
                                                clear hc5
                                                refine hK.out _ _ (Lk.boxS (HXW.out.below ((Lk.Blk.new2 (Lk.belAl (Below.refl _ w) _) _ (g := w.heap.size + 1) (by simp)).drew.bel))) (fun hHq2z28q => ?_)
                                                clear hK K
                                                exact Lk.wpAnyH_eq (by kernel_rfl) q2zkC
                                            case rq2z25q =>
                                              have hc5 := (Lk.belAt ((Lk.belAl (Below.refl _ w) (.cells #[Lk.str y.nm, .int .i64 y.ho, .int .i64 y.md] 71)).drew) 0 HTW.out).trans HCW.out
                                              go_simp
                                              clear hc5
                                              refine hK.out _ _ (Lk.boxS (HXW.out.below ((Lk.Blk.new2 (Below.refl _ w) _ (g := w.heap.size) rfl).drew.bel))) (fun hHq2z29q => ?_)
                                              clear hK K
                                              refine wpAnyH_ready (rs := [1]) (by kernel_rfl) (by simp) ?_
                                              refine AllReadyH.cons (o := ?oq2z30q) ?hq2z30q (fun K hK => ?rq2z30q) AllReadyH.nil
                                              case hq2z30q => (simp; rfl)
                                              case rq2z30q =>
                                                go_simp
                                                refine hK.out _ _ (Lk.boxS (HXW.out.below ((Lk.Blk.new2 (Lk.belAl (Below.refl _ w) _) _ (g := w.heap.size + 1) (by simp)).drew.bel))) (fun hHq2z31q => ?_)
                                                clear hK K
                                                exact Lk.wpAnyH_eq (by kernel_rfl) q2zkC
                                        case p =>
                                          refine wpAnyH_ready (rs := [6, 8]) (by kernel_rfl) (by simp) ?_
                                          refine AllReadyH.cons (o := ?oq2z32q) ?hq2z32q (fun K hK => ?rq2z32q) (AllReadyH.cons (o := ?oq2z33q) ?hq2z33q (fun K hK => ?rq2z33q) AllReadyH.nil)
                                          case hq2z32q => (simp; rfl)
                                          case hq2z33q => (simp; rfl)
                                          case rq2z32q =>
                                            refine Lk.step_append rfl _ _ 26 rfl w.heap.size 71 iH (.agg #[.string ⟨#[]⟩, .int .i64 0, .int .i64 0]) 3 32 Tryd.underlying26 HIH.out.1 HIH.out.2.1 HIH.out.2.2.1 HIH.out.2.2.2 rfl (by decide) (.slice (some ⟨w.heap.size, 0, none⟩) 0 0) 0 ([]) rfl (((Lk.Blk.new2 (Below.refl _ w) _ (g := w.heap.size) rfl).drew).own) ph2 nh2 ch2 (Lk.cellsH has) rfl (HL32.out.1) (HL32.out.2.1) (HL32.out.2.2.below ((Lk.Blk.new2 (Below.refl _ w) _ (g := w.heap.size) rfl).drew).bel) (Lk.cellsH_one _) (by unfold maxLen; omega) (by omega) ((((Lk.Blk.new2 (Below.refl _ w) _ (g := w.heap.size) rfl).drew).bel).size) ?_
                                            intro v1 W1 hown1 hgrow1
                                            rw [List.nil_append, Nat.zero_add] at hown1
                                            have HB1 := Lk.hid (Lk.belOwn (size := 3) (((Lk.Blk.new2 (Below.refl _ w) _ (g := w.heap.size) rfl).drew).bel) (((Lk.Blk.new2 (Below.refl _ w) _ (g := w.heap.size) rfl).drew).own) (Nat.le_refl _) hgrow1)
                                            have HOWN1 := Lk.hid hown1
                                            clear hown1 hgrow1
                                            refine hK.out _ _ (Lk.boxS (HXW.out.below (HB1.out))) (fun hHq2z34q => ?_)
                                            clear hK K
                                            refine wpAnyH_ready (rs := [8]) (by kernel_rfl) (by simp) ?_
                                            refine AllReadyH.cons (o := ?oq2z35q) ?hq2z35q (fun K hK => ?rq2z35q) AllReadyH.nil
                                            case hq2z35q => (simp; rfl)
                                            case rq2z35q =>
                                              go_simp
                                              refine hK.out _ _ (Lk.boxS (HXW.out.below (Lk.belAl HB1.out _))) (fun hHq2z36q => ?_)
                                              clear hK K
                                              refine wpAnyH_ready (rs := [9]) (by kernel_rfl) (by simp) ?_
                                              refine AllReadyH.cons (o := ?oq2z37q) ?hq2z37q (fun K hK => ?rq2z37q) AllReadyH.nil
                                              case hq2z37q => (simp; rfl)
                                              case rq2z37q =>
                                                refine Lk.step_append rfl _ _ 26 rfl w.heap.size 71 iH (.agg #[.string ⟨#[]⟩, .int .i64 0, .int .i64 0]) 3 32 Tryd.underlying26 HIH.out.1 HIH.out.2.1 HIH.out.2.2.1 HIH.out.2.2.2 rfl (by decide) v1 nh2 (Lk.cellsH has) rfl (HOWN1.out.alloc _) (some ⟨W1.heap.size, 0, none⟩) 1 1 (Lk.cellsH [y]) rfl (fun h => nomatch h) (rfl) ((Lk.Blk.new HB1.out _).lies (cs := Lk.cellsH [y])) (Lk.cellsH_one _) (by unfold maxLen; omega) (by omega) ((Lk.belAl HB1.out _).size) ?_
                                                intro v2 W2 hown2 hgrow2
                                                have HB2 := Lk.hid (Lk.belOwn (size := 3) (Lk.belAl HB1.out _) (HOWN1.out.alloc _) (Nat.le_refl _) hgrow2)
                                                have HOWN2 := Lk.hid hown2
                                                clear hown2 hgrow2
                                                refine hK.out _ _ (Lk.boxS (HXW.out.below (HB2.out))) (fun hHq2z38q => ?_)
                                                clear hK K
                                                refine wpAnyH_take (i := 10) (oi := ?oq2z39q10) (v := ?vq2z39q10) ?hiq2z39q10 ?hsq2z39q10 ?hfq2z39q10 ?hrq2z39q10 ?hQq2z39q10 (Or.inl ⟨?hwq2z39q10, ?hyq2z39q10⟩) ?hSq2z39q10 ?restq2z39q10
                                                case hiq2z39q10 => (simp; rfl)
                                                case hsq2z39q10 => kernel_rfl
                                                case hfq2z39q10 => kernel_rfl
                                                case hrq2z39q10 => kernel_rfl
                                                case hQq2z39q10 => exact fun _ _ _ h => h
                                                case hwq2z39q10 => rfl
                                                case hyq2z39q10 => (intro wq hSq; (try dsimp only at hSq); go_simp; (try with_reducible rfl))
                                                case hSq2z39q10 => assumption
                                                simp only [Act.put, List.setIfInBounds_toArray, List.set_cons_zero, List.set_cons_succ]
                                                refine wpAnyH_take (i := 11) (oi := ?oq2z40q11) (v := ?vq2z40q11) ?hiq2z40q11 ?hsq2z40q11 ?hfq2z40q11 ?hrq2z40q11 ?hQq2z40q11 (Or.inl ⟨?hwq2z40q11, ?hyq2z40q11⟩) ?hSq2z40q11 ?restq2z40q11
                                                case hiq2z40q11 => (simp; rfl)
                                                case hsq2z40q11 => kernel_rfl
                                                case hfq2z40q11 => kernel_rfl
                                                case hrq2z40q11 => kernel_rfl
                                                case hQq2z40q11 => exact fun _ _ _ h => h
                                                case hwq2z40q11 => rfl
                                                case hyq2z40q11 => (intro wq hSq; (try dsimp only at hSq); go_simp; (try with_reducible rfl))
                                                case hSq2z40q11 => assumption
                                                simp only [Act.put, List.setIfInBounds_toArray, List.set_cons_zero, List.set_cons_succ]
                                                refine wpAnyH_ready (rs := [12]) (by kernel_rfl) (by simp) ?_
                                                refine AllReadyH.cons (o := ?oq2z41q) ?hq2z41q (fun K hK => ?rq2z41q) AllReadyH.nil
                                                case hq2z41q => (simp; rfl)
                                                case rq2z41q =>
                                                  obtain ⟨pS, cS, rfl, -⟩ := Lk.Sl.own HOWN2.out
                                                  have hcT := (Lk.belAt HB2.out 0 HTW.out).trans HCW.out
                                                  have hfz := HRW.out.frz HB2.out 0
                                                  go_simp
                                                  clear hcT hfz
                                                  refine hK.out _ _ (Lk.boxS ((HXW.out.below HB2.out).set HNE.out 0 _)) (fun hHq2z42q => ?_)
                                                  clear hK K
                                                  refine wpAnyH_done (by kernel_rfl) ?_ _
                                                  have HE4 := Lk.hid (Lk.Ends.store0 (l := has ++ [y]) HC4.out.rm HB2.out (by rw [Lk.cellsH_app]; exact HOWN2.out) (Nat.le_refl _) (by simp [HNH2.out]))
                                                  have HBX5 := Lk.hid (HE4.out.box HXW.out HNE.out)
                                                  obtain ⟨Y5, hC5⟩ := HC4.out.ends HE4.out
                                                  have HC5 := Lk.hid hC5
                                                  clear hC5 HE4 HC4 HXW HB1 HB2 HOWN1 HOWN2 HCW HTW HRW HL32
                                                  obtain ⟨w, hw5⟩ := Lk.nameW HC5
                                                  rw [← hw5] at HC5 HBX5 ⊢
                                                  clear hw5
                                                  have hb1 := HBX5.out.c1
                                                  have hlo : out.length ≤ 800 := by have := HF.out.l2; omega
                                                  have hsz5 : W.heap.size ≤ w.heap.size := HC5.out.gr.size
                                                  have HSZ5 := Lk.hid hsz5
                                                  clear hsz5
                                                  go_wp2_with (first | (at_builtin; refine wpList_append_own_at _ rfl _ _ 37 rfl W.heap.size 3 i0 (.int .i64 0) 1 8 Tryd.underlying37 HI0.out.1 HI0.out.2.1 HI0.out.2.2.1 HI0.out.2.2.2 rfl (by decide) _ _ _ rfl (Lk.ownBelow HC5.out.row (Lk.belAl (Below.refl _ _) _)) ⟨w.heap.size, 0, none⟩ 1 1 [.int .i64 y.ho] rfl rfl (cell_one_new _ _ _) (ints_oneCell .i64 [y.ho]) (by unfold maxLen; omega) (by omega) (by have := HSZ5.out; simp; omega) ?_; intro v' w6 hown' hgrow hnil hloc; have HC6 := Lk.hid (HC5.out.tell hown' hgrow hloc); clear hown' hgrow hnil hloc) | go_in)
                                                  exact ⟨⟨Y5, has ++ [y], A, B, out ++ [y.ho], by rw [← HNA.out], HC6.out, HFG.out⟩, by
                                                    have e1 : Lk.quN T _ = (A ++ B).length := HC6.out.rm.quN
                                                    have e2 := HQN.out
                                                    have e3 := HNQ2.out.2
                                                    have e4 := HNQ2.out.1
                                                    rw [e1, e2, ← e4]
                                                    rw [List.length_append, ← HNA.out]
                                                    simp [RowKit.intOf]; omega⟩
                                          case rq2z33q =>
                                            go_simp
                                            refine hK.out _ _ (Lk.boxS (HXW.out.below ((Lk.Blk.new2 (Lk.belAl (Below.refl _ w) _) _ (g := w.heap.size + 1) (by simp)).drew.bel))) (fun hHq2z43q => ?_)
                                            clear hK K
                                            exact Lk.wpAnyH_eq (by kernel_rfl) q2zkB
                                      case p =>
                                        refine wpAnyH_ready (rs := [6]) (by kernel_rfl) (by simp) ?_
                                        refine AllReadyH.cons (o := ?oq2z44q) ?hq2z44q (fun K hK => ?rq2z44q) AllReadyH.nil
                                        case hq2z44q => (simp; rfl)
                                        case rq2z44q =>
                                          refine Lk.step_append rfl _ _ 26 rfl w.heap.size 71 iH (.agg #[.string ⟨#[]⟩, .int .i64 0, .int .i64 0]) 3 32 Tryd.underlying26 HIH.out.1 HIH.out.2.1 HIH.out.2.2.1 HIH.out.2.2.2 rfl (by decide) (.slice (some ⟨w.heap.size, 0, none⟩) 0 0) 0 ([]) rfl ((((Lk.Blk.new2 (Below.refl _ w) _ (g := w.heap.size) rfl).alloc _).drew).own) ph2 nh2 ch2 (Lk.cellsH has) rfl (HL32.out.1) (HL32.out.2.1) (HL32.out.2.2.below (((Lk.Blk.new2 (Below.refl _ w) _ (g := w.heap.size) rfl).alloc _).drew).bel) (Lk.cellsH_one _) (by unfold maxLen; omega) (by omega) (((((Lk.Blk.new2 (Below.refl _ w) _ (g := w.heap.size) rfl).alloc _).drew).bel).size) ?_
                                          intro v1 W1 hown1 hgrow1
                                          rw [List.nil_append, Nat.zero_add] at hown1
                                          have HB1 := Lk.hid (Lk.belOwn (size := 3) ((((Lk.Blk.new2 (Below.refl _ w) _ (g := w.heap.size) rfl).alloc _).drew).bel) ((((Lk.Blk.new2 (Below.refl _ w) _ (g := w.heap.size) rfl).alloc _).drew).own) (Nat.le_refl _) hgrow1)
                                          have HOWN1 := Lk.hid hown1
                                          have HX1 := Lk.hid (((Lk.Blk.new2 (Lk.belAl (Below.refl _ w) _) _ (g := w.heap.size + 1) (by simp)).drew).grown hgrow1 (by simp [Value.ownBlock]) (fun k hk => by cases hk; exact Nat.le_refl _))
                                          clear hown1 hgrow1
                                          refine hK.out _ _ (Lk.boxS (HXW.out.below (HB1.out))) (fun hHq2z45q => ?_)
                                          clear hK K
                                          refine wpAnyH_ready (rs := [9]) (by kernel_rfl) (by simp) ?_
                                          refine AllReadyH.cons (o := ?oq2z46q) ?hq2z46q (fun K hK => ?rq2z46q) AllReadyH.nil
                                          case hq2z46q => (simp; rfl)
                                          case rq2z46q =>
                                            refine Lk.step_append rfl _ _ 26 rfl w.heap.size 71 iH (.agg #[.string ⟨#[]⟩, .int .i64 0, .int .i64 0]) 3 32 Tryd.underlying26 HIH.out.1 HIH.out.2.1 HIH.out.2.2.1 HIH.out.2.2.2 rfl (by decide) v1 nh2 (Lk.cellsH has) rfl (HOWN1.out) (some ⟨w.heap.size + 1, 0, none⟩) 1 1 (Lk.cellsH [y]) rfl (fun h => nomatch h) (rfl) (HX1.out.lies (cs := Lk.cellsH [y])) (Lk.cellsH_one _) (by unfold maxLen; omega) (by omega) ((HB1.out).size) ?_
                                            intro v2 W2 hown2 hgrow2
                                            have HB2 := Lk.hid (Lk.belOwn (size := 3) (HB1.out) (HOWN1.out) (Nat.le_refl _) hgrow2)
                                            have HOWN2 := Lk.hid hown2
                                            clear hown2 hgrow2
                                            refine hK.out _ _ (Lk.boxS (HXW.out.below (HB2.out))) (fun hHq2z47q => ?_)
                                            clear hK K
                                            refine wpAnyH_take (i := 10) (oi := ?oq2z48q10) (v := ?vq2z48q10) ?hiq2z48q10 ?hsq2z48q10 ?hfq2z48q10 ?hrq2z48q10 ?hQq2z48q10 (Or.inl ⟨?hwq2z48q10, ?hyq2z48q10⟩) ?hSq2z48q10 ?restq2z48q10
                                            case hiq2z48q10 => (simp; rfl)
                                            case hsq2z48q10 => kernel_rfl
                                            case hfq2z48q10 => kernel_rfl
                                            case hrq2z48q10 => kernel_rfl
                                            case hQq2z48q10 => exact fun _ _ _ h => h
                                            case hwq2z48q10 => rfl
                                            case hyq2z48q10 => (intro wq hSq; (try dsimp only at hSq); go_simp; (try with_reducible rfl))
                                            case hSq2z48q10 => assumption
                                            simp only [Act.put, List.setIfInBounds_toArray, List.set_cons_zero, List.set_cons_succ]
                                            refine wpAnyH_take (i := 11) (oi := ?oq2z49q11) (v := ?vq2z49q11) ?hiq2z49q11 ?hsq2z49q11 ?hfq2z49q11 ?hrq2z49q11 ?hQq2z49q11 (Or.inl ⟨?hwq2z49q11, ?hyq2z49q11⟩) ?hSq2z49q11 ?restq2z49q11
                                            case hiq2z49q11 => (simp; rfl)
                                            case hsq2z49q11 => kernel_rfl
                                            case hfq2z49q11 => kernel_rfl
                                            case hrq2z49q11 => kernel_rfl
                                            case hQq2z49q11 => exact fun _ _ _ h => h
                                            case hwq2z49q11 => rfl
                                            case hyq2z49q11 => (intro wq hSq; (try dsimp only at hSq); go_simp; (try with_reducible rfl))
                                            case hSq2z49q11 => assumption
                                            simp only [Act.put, List.setIfInBounds_toArray, List.set_cons_zero, List.set_cons_succ]
                                            refine wpAnyH_ready (rs := [12]) (by kernel_rfl) (by simp) ?_
                                            refine AllReadyH.cons (o := ?oq2z50q) ?hq2z50q (fun K hK => ?rq2z50q) AllReadyH.nil
                                            case hq2z50q => (simp; rfl)
                                            case rq2z50q =>
                                              obtain ⟨pS, cS, rfl, -⟩ := Lk.Sl.own HOWN2.out
                                              have hcT := (Lk.belAt HB2.out 0 HTW.out).trans HCW.out
                                              have hfz := HRW.out.frz HB2.out 0
                                              go_simp
                                              clear hcT hfz
                                              refine hK.out _ _ (Lk.boxS ((HXW.out.below HB2.out).set HNE.out 0 _)) (fun hHq2z51q => ?_)
                                              clear hK K
                                              refine wpAnyH_done (by kernel_rfl) ?_ _
                                              have HE4 := Lk.hid (Lk.Ends.store0 (l := has ++ [y]) HC4.out.rm HB2.out (by rw [Lk.cellsH_app]; exact HOWN2.out) (Nat.le_refl _) (by simp [HNH2.out]))
                                              have HBX5 := Lk.hid (HE4.out.box HXW.out HNE.out)
                                              obtain ⟨Y5, hC5⟩ := HC4.out.ends HE4.out
                                              have HC5 := Lk.hid hC5
                                              clear hC5 HE4 HC4 HXW HB1 HB2 HOWN1 HOWN2 HCW HTW HRW HL32
                                              obtain ⟨w, hw5⟩ := Lk.nameW HC5
                                              rw [← hw5] at HC5 HBX5 ⊢
                                              clear hw5
                                              have hb1 := HBX5.out.c1
                                              have hlo : out.length ≤ 800 := by have := HF.out.l2; omega
                                              have hsz5 : W.heap.size ≤ w.heap.size := HC5.out.gr.size
                                              have HSZ5 := Lk.hid hsz5
                                              clear hsz5
                                              go_wp2_with (first | (at_builtin; refine wpList_append_own_at _ rfl _ _ 37 rfl W.heap.size 3 i0 (.int .i64 0) 1 8 Tryd.underlying37 HI0.out.1 HI0.out.2.1 HI0.out.2.2.1 HI0.out.2.2.2 rfl (by decide) _ _ _ rfl (Lk.ownBelow HC5.out.row (Lk.belAl (Below.refl _ _) _)) ⟨w.heap.size, 0, none⟩ 1 1 [.int .i64 y.ho] rfl rfl (cell_one_new _ _ _) (ints_oneCell .i64 [y.ho]) (by unfold maxLen; omega) (by omega) (by have := HSZ5.out; simp; omega) ?_; intro v' w6 hown' hgrow hnil hloc; have HC6 := Lk.hid (HC5.out.tell hown' hgrow hloc); clear hown' hgrow hnil hloc) | go_in)
                                              exact ⟨⟨Y5, has ++ [y], A, B, out ++ [y.ho], by rw [← HNA.out], HC6.out, HFG.out⟩, by
                                                have e1 : Lk.quN T _ = (A ++ B).length := HC6.out.rm.quN
                                                have e2 := HQN.out
                                                have e3 := HNQ2.out.2
                                                have e4 := HNQ2.out.1
                                                rw [e1, e2, ← e4]
                                                rw [List.length_append, ← HNA.out]
                                                simp [RowKit.intOf]; omega⟩
                                    case p =>
                                      refine wpAnyH_ready (rs := [6]) (by kernel_rfl) (by simp) ?_
                                      refine AllReadyH.cons (o := ?oq2z52q) ?hq2z52q (fun K hK => ?rq2z52q) AllReadyH.nil
                                      case hq2z52q => (simp; rfl)
                                      case rq2z52q =>
                                        refine Lk.step_append rfl _ _ 26 rfl w.heap.size 71 iH (.agg #[.string ⟨#[]⟩, .int .i64 0, .int .i64 0]) 3 32 Tryd.underlying26 HIH.out.1 HIH.out.2.1 HIH.out.2.2.1 HIH.out.2.2.2 rfl (by decide) (.slice (some ⟨w.heap.size + 1, 0, none⟩) 0 0) 0 ([]) rfl (((Lk.Blk.new2 (Lk.belAl (Below.refl _ w) _) _ (g := w.heap.size + 1) (by simp)).drew).own) ph2 nh2 ch2 (Lk.cellsH has) rfl (HL32.out.1) (HL32.out.2.1) (HL32.out.2.2.below ((Lk.Blk.new2 (Lk.belAl (Below.refl _ w) _) _ (g := w.heap.size + 1) (by simp)).drew).bel) (Lk.cellsH_one _) (by unfold maxLen; omega) (by omega) ((((Lk.Blk.new2 (Lk.belAl (Below.refl _ w) _) _ (g := w.heap.size + 1) (by simp)).drew).bel).size) ?_
                                        intro v1 W1 hown1 hgrow1
                                        rw [List.nil_append, Nat.zero_add] at hown1
                                        have HB1 := Lk.hid (Lk.belOwn (size := 3) (((Lk.Blk.new2 (Lk.belAl (Below.refl _ w) _) _ (g := w.heap.size + 1) (by simp)).drew).bel) (((Lk.Blk.new2 (Lk.belAl (Below.refl _ w) _) _ (g := w.heap.size + 1) (by simp)).drew).own) (Nat.le_refl _) hgrow1)
                                        have HOWN1 := Lk.hid hown1
                                        have HX1 := Lk.hid ((((Lk.Blk.new2 (Below.refl _ w) _ (g := w.heap.size) rfl).alloc _).drew).grown hgrow1 (by simp [Value.ownBlock]) (fun k hk => by cases hk; simp))
                                        clear hown1 hgrow1
                                        refine hK.out _ _ (Lk.boxS (HXW.out.below (HB1.out))) (fun hHq2z53q => ?_)
                                        clear hK K
                                        refine wpAnyH_ready (rs := [9]) (by kernel_rfl) (by simp) ?_
                                        refine AllReadyH.cons (o := ?oq2z54q) ?hq2z54q (fun K hK => ?rq2z54q) AllReadyH.nil
                                        case hq2z54q => (simp; rfl)
                                        case rq2z54q =>
                                          refine Lk.step_append rfl _ _ 26 rfl w.heap.size 71 iH (.agg #[.string ⟨#[]⟩, .int .i64 0, .int .i64 0]) 3 32 Tryd.underlying26 HIH.out.1 HIH.out.2.1 HIH.out.2.2.1 HIH.out.2.2.2 rfl (by decide) v1 nh2 (Lk.cellsH has) rfl (HOWN1.out) (some ⟨w.heap.size, 0, none⟩) 1 1 (Lk.cellsH [y]) rfl (fun h => nomatch h) (rfl) (HX1.out.lies (cs := Lk.cellsH [y])) (Lk.cellsH_one _) (by unfold maxLen; omega) (by omega) ((HB1.out).size) ?_
                                          intro v2 W2 hown2 hgrow2
                                          have HB2 := Lk.hid (Lk.belOwn (size := 3) (HB1.out) (HOWN1.out) (Nat.le_refl _) hgrow2)
                                          have HOWN2 := Lk.hid hown2
                                          clear hown2 hgrow2
                                          refine hK.out _ _ (Lk.boxS (HXW.out.below (HB2.out))) (fun hHq2z55q => ?_)
                                          clear hK K
                                          refine wpAnyH_take (i := 10) (oi := ?oq2z56q10) (v := ?vq2z56q10) ?hiq2z56q10 ?hsq2z56q10 ?hfq2z56q10 ?hrq2z56q10 ?hQq2z56q10 (Or.inl ⟨?hwq2z56q10, ?hyq2z56q10⟩) ?hSq2z56q10 ?restq2z56q10
                                          case hiq2z56q10 => (simp; rfl)
                                          case hsq2z56q10 => kernel_rfl
                                          case hfq2z56q10 => kernel_rfl
                                          case hrq2z56q10 => kernel_rfl
                                          case hQq2z56q10 => exact fun _ _ _ h => h
                                          case hwq2z56q10 => rfl
                                          case hyq2z56q10 => (intro wq hSq; (try dsimp only at hSq); go_simp; (try with_reducible rfl))
                                          case hSq2z56q10 => assumption
                                          simp only [Act.put, List.setIfInBounds_toArray, List.set_cons_zero, List.set_cons_succ]
                                          refine wpAnyH_take (i := 11) (oi := ?oq2z57q11) (v := ?vq2z57q11) ?hiq2z57q11 ?hsq2z57q11 ?hfq2z57q11 ?hrq2z57q11 ?hQq2z57q11 (Or.inl ⟨?hwq2z57q11, ?hyq2z57q11⟩) ?hSq2z57q11 ?restq2z57q11
                                          case hiq2z57q11 => (simp; rfl)
                                          case hsq2z57q11 => kernel_rfl
                                          case hfq2z57q11 => kernel_rfl
                                          case hrq2z57q11 => kernel_rfl
                                          case hQq2z57q11 => exact fun _ _ _ h => h
                                          case hwq2z57q11 => rfl
                                          case hyq2z57q11 => (intro wq hSq; (try dsimp only at hSq); go_simp; (try with_reducible rfl))
                                          case hSq2z57q11 => assumption
                                          simp only [Act.put, List.setIfInBounds_toArray, List.set_cons_zero, List.set_cons_succ]
                                          refine wpAnyH_ready (rs := [12]) (by kernel_rfl) (by simp) ?_
                                          refine AllReadyH.cons (o := ?oq2z58q) ?hq2z58q (fun K hK => ?rq2z58q) AllReadyH.nil
                                          case hq2z58q => (simp; rfl)
                                          case rq2z58q =>
                                            obtain ⟨pS, cS, rfl, -⟩ := Lk.Sl.own HOWN2.out
                                            have hcT := (Lk.belAt HB2.out 0 HTW.out).trans HCW.out
                                            have hfz := HRW.out.frz HB2.out 0
                                            go_simp
                                            clear hcT hfz
                                            refine hK.out _ _ (Lk.boxS ((HXW.out.below HB2.out).set HNE.out 0 _)) (fun hHq2z59q => ?_)
                                            clear hK K
                                            refine wpAnyH_done (by kernel_rfl) ?_ _
                                            have HE4 := Lk.hid (Lk.Ends.store0 (l := has ++ [y]) HC4.out.rm HB2.out (by rw [Lk.cellsH_app]; exact HOWN2.out) (Nat.le_refl _) (by simp [HNH2.out]))
                                            have HBX5 := Lk.hid (HE4.out.box HXW.out HNE.out)
                                            obtain ⟨Y5, hC5⟩ := HC4.out.ends HE4.out
                                            have HC5 := Lk.hid hC5
                                            clear hC5 HE4 HC4 HXW HB1 HB2 HOWN1 HOWN2 HCW HTW HRW HL32
                                            obtain ⟨w, hw5⟩ := Lk.nameW HC5
                                            rw [← hw5] at HC5 HBX5 ⊢
                                            clear hw5
                                            have hb1 := HBX5.out.c1
                                            have hlo : out.length ≤ 800 := by have := HF.out.l2; omega
                                            have hsz5 : W.heap.size ≤ w.heap.size := HC5.out.gr.size
                                            have HSZ5 := Lk.hid hsz5
                                            clear hsz5
                                            go_wp2_with (first | (at_builtin; refine wpList_append_own_at _ rfl _ _ 37 rfl W.heap.size 3 i0 (.int .i64 0) 1 8 Tryd.underlying37 HI0.out.1 HI0.out.2.1 HI0.out.2.2.1 HI0.out.2.2.2 rfl (by decide) _ _ _ rfl (Lk.ownBelow HC5.out.row (Lk.belAl (Below.refl _ _) _)) ⟨w.heap.size, 0, none⟩ 1 1 [.int .i64 y.ho] rfl rfl (cell_one_new _ _ _) (ints_oneCell .i64 [y.ho]) (by unfold maxLen; omega) (by omega) (by have := HSZ5.out; simp; omega) ?_; intro v' w6 hown' hgrow hnil hloc; have HC6 := Lk.hid (HC5.out.tell hown' hgrow hloc); clear hown' hgrow hnil hloc) | go_in)
                                            exact ⟨⟨Y5, has ++ [y], A, B, out ++ [y.ho], by rw [← HNA.out], HC6.out, HFG.out⟩, by
                                              have e1 : Lk.quN T _ = (A ++ B).length := HC6.out.rm.quN
                                              have e2 := HQN.out
                                              have e3 := HNQ2.out.2
                                              have e4 := HNQ2.out.1
                                              rw [e1, e2, ← e4]
                                              rw [List.length_append, ← HNA.out]
                                              simp [RowKit.intOf]; omega⟩
                          · have HBB := Lk.hid hbb
                            have HFG := Lk.hid (HF.out.wait (Or.inr hbb))
                            clear hbb hs
                            go_wp2_with fail
                            go_region_held3 (fun w' => w'.cell? ⟨wr.heap.size, 0, none⟩ = some (Lk.str y.nm) ∧ w'.cell? ⟨wr.heap.size, 1, none⟩ = some (.int .i64 y.ho) ∧ w'.cell? ⟨wr.heap.size, 2, none⟩ = some (.int .i64 y.md) ∧ w'.cell? ⟨bn, k, none⟩ = some (Lk.str nm)) (first | exact HS9.out _ (Below.refl _ _).drew | exact HS9.out _ HB2.out) ((go_at_call 35; refine (refBarring_any (Y ++ X) _ T ⟨has, A ++ y :: B⟩ y nA HR1 ⟨HLN9.out.1, HLN9.out.2.1⟩ HLN9.out.2.2 HOK9).mono ?_; rintro e w ⟨p2, c2, l2, rfl, s1, s2, s3, s4, s5⟩; obtain ⟨n2, hn2⟩ : ∃ n2, n2 = l2.length := ⟨_, rfl⟩; rw [← hn2]; have HB2 : Hid (Below ((wr.alloc (.cells #[Lk.str y.nm, .int .i64 y.ho, .int .i64 y.md] 71))).heap.size (wr.alloc (.cells #[Lk.str y.nm, .int .i64 y.ho, .int .i64 y.md] 71)) w) := Lk.hid (Lk.belTr (Below.refl _ _).drew s5); have hlb : decide ((0 : Int) < (l2.length : Int)) = true := (by rw [Lk.bars_nil s3, show (A ++ y :: B).take nA = A from by rw [HNA.out]; simp]; exact HBB.out); rw [← hn2] at hlb; have hlen : (0 : Int) < (n2 : Int) := of_decide_eq_true hlb; clear hlb s1 s2 s3 s4 s5 hn2))
                            have HCW := Lk.hid (HC.out.below (Lk.belTr HB1b.out HB2.out))
                            go_wp2_with fail
                            exact ⟨⟨Y, has, A ++ [y], B, out, by rw [List.length_append, ← HNA.out]; go_num, by rw [List.append_assoc]; exact HCW.out, HFG.out⟩, by
                              have e1 : Lk.quN T _ = nq2 := (HCW.out.rm.quN).trans HNQ2.out.1.symm
                              have e2 := HQN.out.trans HNQ2.out.1.symm
                              rw [e1, e2]
                              simp [RowKit.intOf]; omega⟩
                        · have hs2 : (y.nm == nm) = false := by simpa using hs
                          have hs3 : (y.nm != nm) = true := by rw [bne, hs2]; rfl
                          have HFG := Lk.hid (HF.out.wait (Or.inl hs))
                          have HCW := Lk.hid (HC.out.below HB1b.out.drew)
                          rw [hs2] at hE
                          clear hs
                          go_wp2_with fail
                          refine wp_region_held_drew (S := (fun w' => w'.cell? ⟨wr.heap.size, 0, none⟩ = some (Lk.str y.nm) ∧ w'.cell? ⟨wr.heap.size, 1, none⟩ = some (.int .i64 y.ho) ∧ w'.cell? ⟨wr.heap.size, 2, none⟩ = some (.int .i64 y.md) ∧ w'.cell? ⟨bn, k, none⟩ = some (Lk.str nm))) (by kernel_rfl) (HS9.out _ (Below.refl _ _).drew) (fun hH => ?_)
                          refine wpAnyH_take (i := 0) (oi := ?on1q0) (v := ?vn1q0) ?hin1q0 ?hsn1q0 ?hfn1q0 ?hrn1q0 ?hQn1q0 (Or.inl ⟨?hwn1q0, ?hyn1q0⟩) ?hSn1q0 ?restn1q0
                          case hin1q0 => (simp; rfl)
                          case hsn1q0 => kernel_rfl
                          case hfn1q0 => kernel_rfl
                          case hrn1q0 => kernel_rfl
                          case hQn1q0 => exact fun _ _ _ h => h
                          case hwn1q0 => rfl
                          case hyn1q0 => (intro wq hSq; (try dsimp only at hSq); go_simp; (try with_reducible rfl))
                          case hSn1q0 => assumption
                          simp only [Act.put, List.setIfInBounds_toArray, List.set_cons_zero, List.set_cons_succ]
                          refine wpAnyH_take (i := 1) (oi := ?on2q1) (v := ?vn2q1) ?hin2q1 ?hsn2q1 ?hfn2q1 ?hrn2q1 ?hQn2q1 (Or.inl ⟨?hwn2q1, ?hyn2q1⟩) ?hSn2q1 ?restn2q1
                          case hin2q1 => (simp; rfl)
                          case hsn2q1 => kernel_rfl
                          case hfn2q1 => kernel_rfl
                          case hrn2q1 => kernel_rfl
                          case hQn2q1 => exact fun _ _ _ h => h
                          case hwn2q1 => rfl
                          case hyn2q1 => (intro wq hSq; (try dsimp only at hSq); go_simp; (try with_reducible rfl))
                          case hSn2q1 => assumption
                          simp only [Act.put, List.setIfInBounds_toArray, List.set_cons_zero, List.set_cons_succ]
                          refine wpAnyH_take (i := 2) (oi := ?on3q2) (v := ?vn3q2) ?hin3q2 ?hsn3q2 ?hfn3q2 ?hrn3q2 ?hQn3q2 (Or.inl ⟨?hwn3q2, ?hyn3q2⟩) ?hSn3q2 ?restn3q2
                          case hin3q2 => (simp; rfl)
                          case hsn3q2 => kernel_rfl
                          case hfn3q2 => kernel_rfl
                          case hrn3q2 => kernel_rfl
                          case hQn3q2 => exact fun _ _ _ h => h
                          case hwn3q2 => rfl
                          case hyn3q2 => (intro wq hSq; (try dsimp only at hSq); go_simp; (try with_reducible rfl))
                          case hSn3q2 => assumption
                          simp only [Act.put, List.setIfInBounds_toArray, List.set_cons_zero, List.set_cons_succ]
                          refine wpAnyH_take (i := 3) (oi := ?on4q3) (v := ?vn4q3) ?hin4q3 ?hsn4q3 ?hfn4q3 ?hrn4q3 ?hQn4q3 (Or.inl ⟨?hwn4q3, ?hyn4q3⟩) ?hSn4q3 ?restn4q3
                          case hin4q3 => (simp; rfl)
                          case hsn4q3 => kernel_rfl
                          case hfn4q3 => kernel_rfl
                          case hrn4q3 => kernel_rfl
                          case hQn4q3 => exact fun _ _ _ h => h
                          case hwn4q3 => rfl
                          case hyn4q3 => (intro wq hSq; (try dsimp only at hSq); go_simp; (try with_reducible rfl))
                          case hSn4q3 => assumption
                          simp only [Act.put, List.setIfInBounds_toArray, List.set_cons_zero, List.set_cons_succ]
                          refine wpAnyH_take (i := 4) (oi := ?on5q4) (v := ?vn5q4) ?hin5q4 ?hsn5q4 ?hfn5q4 ?hrn5q4 ?hQn5q4 (Or.inl ⟨?hwn5q4, ?hyn5q4⟩) ?hSn5q4 ?restn5q4
                          case hin5q4 => (simp; rfl)
                          case hsn5q4 => kernel_rfl
                          case hfn5q4 => kernel_rfl
                          case hrn5q4 => kernel_rfl
                          case hQn5q4 => exact fun _ _ _ h => h
                          case hwn5q4 => rfl
                          case hyn5q4 => (intro wq hSq; (try dsimp only at hSq); go_simp; (try with_reducible rfl))
                          case hSn5q4 => assumption
                          simp only [Act.put, List.setIfInBounds_toArray, List.set_cons_zero, List.set_cons_succ]
                          refine wpAnyH_take (i := 5) (oi := ?on6q5) (v := ?vn6q5) ?hin6q5 ?hsn6q5 ?hfn6q5 ?hrn6q5 ?hQn6q5 (Or.inl ⟨?hwn6q5, ?hyn6q5⟩) ?hSn6q5 ?restn6q5
                          case hin6q5 => (simp; rfl)
                          case hsn6q5 => kernel_rfl
                          case hfn6q5 => kernel_rfl
                          case hrn6q5 => kernel_rfl
                          case hQn6q5 => exact fun _ _ _ h => h
                          case hwn6q5 => rfl
                          case hyn6q5 => (intro wq hSq; (try dsimp only at hSq); go_simp; (try with_reducible rfl))
                          case hSn6q5 => assumption
                          simp only [Act.put, List.setIfInBounds_toArray, List.set_cons_zero, List.set_cons_succ]
                          refine wpAnyH_take (i := 6) (oi := ?on7q6) (v := ?vn7q6) ?hin7q6 ?hsn7q6 ?hfn7q6 ?hrn7q6 ?hQn7q6 (Or.inl ⟨?hwn7q6, ?hyn7q6⟩) ?hSn7q6 ?restn7q6
                          case hin7q6 => (simp; rfl)
                          case hsn7q6 => kernel_rfl
                          case hfn7q6 => kernel_rfl
                          case hrn7q6 => kernel_rfl
                          case hQn7q6 => exact fun _ _ _ h => h
                          case hwn7q6 => rfl
                          case hyn7q6 => (intro wq hSq; (try dsimp only at hSq); go_simp; (try with_reducible rfl))
                          case hSn7q6 => assumption
                          simp only [Act.put, List.setIfInBounds_toArray, List.set_cons_zero, List.set_cons_succ]
                          refine wpAnyH_take (i := 7) (oi := ?on8q7) (v := ?vn8q7) ?hin8q7 ?hsn8q7 ?hfn8q7 ?hrn8q7 ?hQn8q7 (Or.inl ⟨?hwn8q7, ?hyn8q7⟩) ?hSn8q7 ?restn8q7
                          case hin8q7 => (simp; rfl)
                          case hsn8q7 => kernel_rfl
                          case hfn8q7 => kernel_rfl
                          case hrn8q7 => kernel_rfl
                          case hQn8q7 => exact fun _ _ _ h => h
                          case hwn8q7 => rfl
                          case hyn8q7 => (intro wq hSq; (try dsimp only at hSq); go_simp; (try with_reducible rfl))
                          case hSn8q7 => assumption
                          simp only [Act.put, List.setIfInBounds_toArray, List.set_cons_zero, List.set_cons_succ]
                          refine wpAnyH_take (i := 8) (oi := ?on9q8) (v := undef) ?hin9q8 ?hsn9q8 ?hfn9q8 ?hrn9q8 ?hQn9q8 (Or.inr ⟨?hwn9q8, rfl⟩) ?hSn9q8 ?restn9q8
                          case hin9q8 => (simp; rfl)
                          case hsn9q8 => kernel_rfl
                          case hfn9q8 => kernel_rfl
                          case hrn9q8 => kernel_rfl
                          case hQn9q8 => exact fun _ _ _ h => h
                          case hwn9q8 => rfl
                          case hSn9q8 => assumption
                          simp only [Act.put, List.setIfInBounds_toArray, List.set_cons_zero, List.set_cons_succ]
                          refine wpAnyH_take (i := 9) (oi := ?on10q9) (v := undef) ?hin10q9 ?hsn10q9 ?hfn10q9 ?hrn10q9 ?hQn10q9 (Or.inr ⟨?hwn10q9, rfl⟩) ?hSn10q9 ?restn10q9
                          case hin10q9 => (simp; rfl)
                          case hsn10q9 => kernel_rfl
                          case hfn10q9 => kernel_rfl
                          case hrn10q9 => kernel_rfl
                          case hQn10q9 => exact fun _ _ _ h => h
                          case hwn10q9 => rfl
                          case hSn10q9 => assumption
                          simp only [Act.put, List.setIfInBounds_toArray, List.set_cons_zero, List.set_cons_succ]
                          refine wpAnyH_take (i := 10) (oi := ?on11q10) (v := undef) ?hin11q10 ?hsn11q10 ?hfn11q10 ?hrn11q10 ?hQn11q10 (Or.inr ⟨?hwn11q10, rfl⟩) ?hSn11q10 ?restn11q10
                          case hin11q10 => (simp; rfl)
                          case hsn11q10 => kernel_rfl
                          case hfn11q10 => kernel_rfl
                          case hrn11q10 => kernel_rfl
                          case hQn11q10 => exact fun _ _ _ h => h
                          case hwn11q10 => rfl
                          case hSn11q10 => assumption
                          simp only [Act.put, List.setIfInBounds_toArray, List.set_cons_zero, List.set_cons_succ]
                          refine wpAnyH_take (i := 11) (oi := ?on12q11) (v := undef) ?hin12q11 ?hsn12q11 ?hfn12q11 ?hrn12q11 ?hQn12q11 (Or.inr ⟨?hwn12q11, rfl⟩) ?hSn12q11 ?restn12q11
                          case hin12q11 => (simp; rfl)
                          case hsn12q11 => kernel_rfl
                          case hfn12q11 => kernel_rfl
                          case hrn12q11 => kernel_rfl
                          case hQn12q11 => exact fun _ _ _ h => h
                          case hwn12q11 => rfl
                          case hSn12q11 => assumption
                          simp only [Act.put, List.setIfInBounds_toArray, List.set_cons_zero, List.set_cons_succ]
                          refine wpAnyH_take (i := 12) (oi := ?on13q12) (v := undef) ?hin13q12 ?hsn13q12 ?hfn13q12 ?hrn13q12 ?hQn13q12 (Or.inr ⟨?hwn13q12, rfl⟩) ?hSn13q12 ?restn13q12
                          case hin13q12 => (simp; rfl)
                          case hsn13q12 => kernel_rfl
                          case hfn13q12 => kernel_rfl
                          case hrn13q12 => kernel_rfl
                          case hQn13q12 => exact fun _ _ _ h => h
                          case hwn13q12 => rfl
                          case hSn13q12 => assumption
                          simp only [Act.put, List.setIfInBounds_toArray, List.set_cons_zero, List.set_cons_succ]
                          refine wpAnyH_take (i := 13) (oi := ?on14q13) (v := undef) ?hin14q13 ?hsn14q13 ?hfn14q13 ?hrn14q13 ?hQn14q13 (Or.inr ⟨?hwn14q13, rfl⟩) ?hSn14q13 ?restn14q13
                          case hin14q13 => (simp; rfl)
                          case hsn14q13 => kernel_rfl
                          case hfn14q13 => kernel_rfl
                          case hrn14q13 => kernel_rfl
                          case hQn14q13 => exact fun _ _ _ h => h
                          case hwn14q13 => rfl
                          case hSn14q13 => assumption
                          simp only [Act.put, List.setIfInBounds_toArray, List.set_cons_zero, List.set_cons_succ]
                          refine wpAnyH_take (i := 14) (oi := ?on15q14) (v := ?vn15q14) ?hin15q14 ?hsn15q14 ?hfn15q14 ?hrn15q14 ?hQn15q14 (Or.inl ⟨?hwn15q14, ?hyn15q14⟩) ?hSn15q14 ?restn15q14
                          case hin15q14 => (simp; rfl)
                          case hsn15q14 => kernel_rfl
                          case hfn15q14 => kernel_rfl
                          case hrn15q14 => kernel_rfl
                          case hQn15q14 => exact fun _ _ _ h => h
                          case hwn15q14 => rfl
                          case hyn15q14 => (intro wq hSq; (try dsimp only at hSq); go_simp; (try with_reducible rfl))
                          case hSn15q14 => assumption
                          simp only [Act.put, List.setIfInBounds_toArray, List.set_cons_zero, List.set_cons_succ]
                          refine wpAnyH_done (by kernel_rfl) ?_ _
                          go_wp2_with fail
                          exact ⟨⟨Y, has, A ++ [y], B, out, by rw [List.length_append, ← HNA.out]; go_num, by rw [List.append_assoc]; exact HCW.out, HFG.out⟩, by
                            have e1 : Lk.quN T _ = nq2 := (HCW.out.rm.quN).trans HNQ2.out.1.symm
                            have e2 := HQN.out.trans HNQ2.out.1.symm
                            rw [e1, e2]
                            simp [RowKit.intOf]; omega⟩
            · obtain rfl : k = nN := by omega
              have hdr : N.drop k = [] := List.drop_of_length_le (by rw [← HNN.out]; exact Nat.le_refl _)
              have HFI : Hid (r' = fin.1 ∧ out = fin.2) := Lk.hid ⟨by have := HF.out.e1; rw [hdr] at this; exact this, by have := HF.out.e2; rw [hdr] at this; simpa [Lk.relT] using this⟩
              obtain ⟨po, co, eo, hso⟩ := Lk.Sl.own HC.out.row
              subst eo
              go_wp2_with fail
              go_ret
              refine ⟨po, co, out, rfl, hso, fun L hL hm => ?_⟩
              have hmine : N.filter (fun n => Tq.contains n) = L := Lk.mine_is HNM.out.2.1 HNM.out.2.2.1 (fun n => by
                rw [HETq.out, List.mem_append, List.mem_map, List.mem_map]
                constructor
                · rintro (⟨z, hz, e⟩ | ⟨z, hz, e⟩)
                  · exact ⟨z, List.mem_append_left _ (List.mem_filter.1 hz).1, by simpa using (List.mem_filter.1 hz).2, e⟩
                  · exact ⟨z, List.mem_append_right _ (List.mem_filter.1 hz).1, by simpa using (List.mem_filter.1 hz).2, e⟩
                · rintro ⟨z, hz, e1, e2⟩
                  rcases List.mem_append.1 hz with hz | hz
                  · exact Or.inl ⟨z, List.mem_filter.2 ⟨hz, by simpa using e1⟩, e2⟩
                  · exact Or.inr ⟨z, List.mem_filter.2 ⟨hz, by simpa using e1⟩, e2⟩) hL hm
              have hle : Lk.leaveT r x = ⟨H, Hq⟩ := by unfold Lk.leaveT; rw [HEH.out, HEq.out]
              rw [hle, ← hmine, ← HFE.out, ← HFI.out.1, ← HFI.out.2]
              exact ⟨rfl, Y, HC.out.rm, HC.out.gr, HC.out.yb⟩

end Go.Proofs.YthaenobciefjiaaDoor
