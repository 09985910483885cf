/- ClogNumbers walked. -/
import Derived.Test.YtdbbamjijhaeoaaCb3
namespace Go.Proofs.Ytdbbamjijhaeoaa
open Go.RowKit

set_option maxRecDepth 100000 in
set_option maxHeartbeats 4000000 in
theorem clogNumbers_law (q : Option Addr) (L c : Nat) (xs : List Nat) (w : World) (hx0 : Cg.U8s w q L c xs) :
    Calls Try.prog 7 #[.slice q L c] w fun e w' => e = .returned (.bool true) ∧ Below w.heap.size w w' := by
  have HX := Mm.hid hx0
  by_cases h90 : 90 < L
  · have g1 : (90 : Int) < (L : Int) := by omega
    clear hx0
    go_enter Try.func7, Try.ntmps7
    go_wp2_with fail
    refine (new_any w).mono ?_
    rintro e w1 ⟨rfl, hl, hb⟩
    have HB1 := Mm.hid hb
    clear hl hb
    go_wp2_with fail
    refine (wakes_any w1).mono ?_
    rintro e w2 ⟨rfl, hb⟩
    have HB2 := Mm.hid (HB1.out.trans (hb.mono HB1.out.size))
    clear hb
    go_wp2_with fail
    go_ret
    exact ⟨rfl, HB2.out⟩
  · have g1 : ¬ (90 : Int) < (L : Int) := by omega
    have hL : L ≤ 90 := by omega
    clear hx0 h90
    go_enter Try.func7, Try.ntmps7
    go_wp2_with fail
    refine (new_any w).mono ?_
    rintro e w1 ⟨rfl, hl, hb⟩
    obtain ⟨p, hp⟩ : ∃ p, p = w.heap.size := ⟨_, rfl⟩
    rw [← hp] at hl ⊢
    rw [← Cg.ns_zero xs] at hl
    have HP := Mm.hid hp
    have HL1 := Mm.hid hl
    have HB1 := Mm.hid hb
    clear hl hb hp
    go_wp2_with fail
    go_loopw [4, 5] (fun vn vi wq => ∃ j : Nat, j ≤ L ∧ vi = .int .i64 (j : Int) ∧ vn = .int .i64 (Cg.cn xs j : Int) ∧ Hid (Mm.Lg wq p (Cg.ns xs j)) ∧ Hid (Below w.heap.size w wq)) (fun _ vi _ => L - (RowKit.intOf vi).toNat)
    case atStart => exact ⟨0, by omega, rfl, rfl, HL1, HB1⟩
    case round =>
      obtain ⟨j, hj, rfl, rfl, HLq, HBq⟩ := hrel
      rename World => wq
      by_cases hjm : j < L
      · obtain ⟨x, hx⟩ : ∃ x, xs[j]? = some x := ⟨_, List.getElem?_eq_getElem (by rw [HX.out.len]; exact hjm)⟩
        obtain ⟨hx256, b, o, rfl, hbl, hbc⟩ := HX.out.at_ j x hx
        have HEN : Hid (Cg.en xs j = x) := Mm.hid (by unfold Cg.en; rw [List.getD_eq_getElem?_getD, hx]; rfl)
        have HBL := Mm.hid hbl
        have HBC := Mm.hid hbc
        have c1 : wq.cell? ⟨b, o + j, none⟩ = some (.int .u8 (x : Int)) := (HBq.out.cell (p := ⟨b, o + j, none⟩) hbl).trans hbc
        have g2 : (j : Int) < (L : Int) := by omega
        have g3 : (0 : Int) ≤ (j : Int) := by omega
        clear hx hbl hbc
        have hb2 : ((x : Int) % 2 == 1) = (Cg.en xs j % 2 == 1) := by rw [HEN.out]; rw [Bool.eq_iff_iff]; simp only [beq_iff_eq]; omega
        have HN1 : Hid (Cg.begS (Cg.ns xs j) (Cg.en xs j % 2 == 1) = Cg.ns1 xs j) := Mm.hid (by unfold Cg.begS; rw [if_neg (by show ¬ j = 200; omega)]; rfl)
        have hA : ((Cg.begA (Cg.ns xs j) : Nat) : Int) = (j : Int) + 1 := by unfold Cg.begA; rw [if_neg (by show ¬ j = 200; omega)]; rfl
        have hE : ((Cg.begE (Cg.ns xs j) : Nat) : Int) = 0 := by unfold Cg.begE; rw [if_neg (by show ¬ j = 200; omega)]; rfl
        go_wp2_with fail
        clear hb2
        refine (begin_any wq p (Cg.ns xs j) (Cg.en xs j % 2 == 1) HLq (by show j ≤ 200; omega)).mono ?_
        rintro e w2 ⟨rfl, hl, hb⟩
        rw [HN1.out] at hl
        rw [hA, hE]
        have HL2 := Mm.hid hl
        have HV2 : Hid (Mm.Lv w2 (.pointer (some ⟨p, 0, none⟩)) (Cg.ns1 xs j)) := Mm.hid (Or.inl ⟨p, rfl, hl⟩)
        have HB2 := Mm.hid (HBq.out.trans (hb.bel (Nat.le_of_eq HP.out.symm) HBq.out.size))
        clear hl hb hA hE c1
        go_wp2_with fail
        refine (snapshot_any w2 _ (Cg.ns1 xs j) ((j : Int) + 1) HV2 (by show j + 1 ≤ 200; omega)).mono ?_
        rintro e w3 ⟨rfl, hb⟩
        rw [Cg.ns1_gt]
        have HL3 := Mm.hid (HL2.out.below hb)
        have HV3 := Mm.hid (HV2.out.below hb)
        have HB3 := Mm.hid (HB2.out.trans (hb.mono HB2.out.size))
        have g4 : ((Cg.cn xs j : Int) != (Cg.cn xs j : Int)) = false := by simp
        clear hb
        go_wp2_with fail
        refine (state_any w3 _ (Cg.ns1 xs j) ((j : Int) + 1) HV3 (by show j + 1 ≤ 200; omega)).mono ?_
        rintro e w4 ⟨rfl, hb⟩
        rw [Cg.ns1_gt]
        have HL4 := Mm.hid (HL3.out.below hb)
        have HB4 := Mm.hid (HB3.out.trans (hb.mono HB3.out.size))
        have c4 : w4.cell? ⟨b, o + j, none⟩ = some (.int .u8 (x : Int)) := (HB4.out.cell (p := ⟨b, o + j, none⟩) HBL.out).trans HBC.out
        clear hb g4
        by_cases h3 : x % 3 = 0
        · have g5 : ((x : Int) % 3 == 0) = true := by simp; omega
          have HN2 := Mm.hid (Cg.ns_abo xs j (by rw [HEN.out]; exact h3))
          have HC2 : Hid (Cg.cn xs (j + 1) = Cg.cn xs j) := Mm.hid (by show Cg.cn xs j + _ = _; rw [if_pos (by rw [HEN.out]; exact h3)]; rfl)
          have hg2 : Hid (Cg.gt (Cg.ns xs (j + 1)) ((j : Int) + 1) = ⟨3, 0, Cg.cn xs j, Cg.en xs j % 2 == 1⟩) := Mm.hid (by
            have := Cg.ns_gt xs (j + 1) (j + 1) (by omega) (Nat.le_refl _)
            rw [show ((j + 1 : Nat) : Int) = (j : Int) + 1 from rfl] at this
            rw [this]
            unfold Cg.ntx
            rw [show j + 1 - 1 = j from rfl, if_pos (by rw [HEN.out]; exact h3)])
          have hE : ((Cg.endE (Cg.ns1 xs j) ((j : Int) + 1) : Nat) : Int) = 0 := by rw [Cg.ns_endE]; rfl
          clear h3
          go_wp2_with fail
          refine (abort_any w4 p (Cg.ns1 xs j) ((j : Int) + 1) HL4 (by show j + 1 ≤ 200; omega)).mono ?_
          rintro e w5 ⟨rfl, hl, hb⟩
          rw [HN2.out] at hl
          rw [hE]
          have HL5 := Mm.hid hl
          have HV5 : Hid (Mm.Lv w5 (.pointer (some ⟨p, 0, none⟩)) (Cg.ns xs (j + 1))) := Mm.hid (Or.inl ⟨p, rfl, hl⟩)
          have HB5 := Mm.hid (HB4.out.trans (hb.bel (Nat.le_of_eq HP.out.symm) HB4.out.size))
          clear hl hb hE c4 g5
          go_wp2_with fail
          refine (csn_any w5 _ (Cg.ns xs (j + 1)) ((j : Int) + 1) HV5 (by show j + 1 ≤ 200; omega)).mono ?_
          rintro e w6 ⟨rfl, hb⟩
          rw [hg2.out]
          have HL6 := Mm.hid (HL5.out.below hb)
          have HV6 := Mm.hid (HV5.out.below hb)
          have HB6 := Mm.hid (HB5.out.trans (hb.mono HB5.out.size))
          clear hb
          go_wp2_with fail
          refine (state_any w6 _ (Cg.ns xs (j + 1)) ((j : Int) + 1) HV6 (by show j + 1 ≤ 200; omega)).mono ?_
          rintro e w7 ⟨rfl, hb⟩
          rw [hg2.out]
          have HL7 := Mm.hid (HL6.out.below hb)
          have HB7 := Mm.hid (HB6.out.trans (hb.mono HB6.out.size))
          clear hb
          go_wp2_with fail
          exact ⟨⟨j + 1, by omega, by go_num, by rw [HC2.out], HL7, HB7⟩, by simp [RowKit.intOf]; omega⟩
        · have g5 : ((x : Int) % 3 == 0) = false := by simp; omega
          have HN2 := Mm.hid (Cg.ns_com xs j (by rw [HEN.out]; exact h3))
          have hC2 : ((Cg.cn xs (j + 1) : Nat) : Int) = (Cg.cn xs j : Int) + 1 := by rw [show Cg.cn xs (j + 1) = Cg.cn xs j + 1 from by show Cg.cn xs j + _ = _; rw [if_neg (by rw [HEN.out]; exact h3)]]; rfl
          have hg2 : Hid (Cg.gt (Cg.ns xs (j + 1)) ((j : Int) + 1) = ⟨2, Cg.cn xs (j + 1), Cg.cn xs j, Cg.en xs j % 2 == 1⟩) := Mm.hid (by
            have := Cg.ns_gt xs (j + 1) (j + 1) (by omega) (Nat.le_refl _)
            rw [show ((j + 1 : Nat) : Int) = (j : Int) + 1 from rfl] at this
            rw [this]
            unfold Cg.ntx
            rw [show j + 1 - 1 = j from rfl, if_neg (by rw [HEN.out]; exact h3)])
          have hE : ((Cg.endE (Cg.ns1 xs j) ((j : Int) + 1) : Nat) : Int) = 0 := by rw [Cg.ns_endE]; rfl
          have hA : ((Cg.comA (Cg.ns1 xs j) ((j : Int) + 1) : Nat) : Int) = (Cg.cn xs j : Int) + 1 := by rw [Cg.ns_comA _ _ (by rw [HEN.out]; exact h3), hC2]
          have HC2 := Mm.hid hC2
          have HCL : Hid (Cg.cn xs j ≤ j) := Mm.hid (Cg.cn_le xs j)
          have g6 : (((Cg.cn xs j : Int) + 1) != ((Cg.cn xs j : Int) + 1)) = false := by simp
          have hov : (Cg.cn xs j : Int) < 100 := by have := HCL.out; omega
          clear h3 hC2
          go_wp2_with fail
          refine (commit_any w4 p (Cg.ns1 xs j) ((j : Int) + 1) HL4 (by show j + 1 ≤ 200; omega) (by show Cg.cn xs j < 1000000; have := HCL.out; omega)).mono ?_
          rintro e w5 ⟨rfl, hl, hb⟩
          rw [HN2.out] at hl
          rw [hE, hA]
          have HL5 := Mm.hid hl
          have HV5 : Hid (Mm.Lv w5 (.pointer (some ⟨p, 0, none⟩)) (Cg.ns xs (j + 1))) := Mm.hid (Or.inl ⟨p, rfl, hl⟩)
          have HB5 := Mm.hid (HB4.out.trans (hb.bel (Nat.le_of_eq HP.out.symm) HB4.out.size))
          clear hl hb hE hA c4 g5
          go_wp2_with fail
          refine (csn_any w5 _ (Cg.ns xs (j + 1)) ((j : Int) + 1) HV5 (by show j + 1 ≤ 200; omega)).mono ?_
          rintro e w6 ⟨rfl, hb⟩
          rw [hg2.out]
          simp only []
          rw [HC2.out]
          have HL6 := Mm.hid (HL5.out.below hb)
          have HV6 := Mm.hid (HV5.out.below hb)
          have HB6 := Mm.hid (HB5.out.trans (hb.mono HB5.out.size))
          clear hb
          go_wp2_with fail
          refine (clock_any w6 _ (Cg.ns xs (j + 1)) HV6).mono ?_
          rintro e w7 ⟨rfl, hb⟩
          rw [show (Cg.ns xs (j + 1)).clk = Cg.cn xs (j + 1) from rfl, HC2.out]
          have HL7 := Mm.hid (HL6.out.below hb)
          have HB7 := Mm.hid (HB6.out.trans (hb.mono HB6.out.size))
          clear hb
          go_wp2_with fail
          exact ⟨⟨j + 1, by omega, by go_num, by rw [HC2.out], HL7, HB7⟩, by simp [RowKit.intOf]; omega⟩
      · obtain rfl : j = L := by omega
        have HVq : Hid (Mm.Lv wq (.pointer (some ⟨p, 0, none⟩)) (Cg.ns xs j)) := Mm.hid (Or.inl ⟨p, rfl, HLq.out⟩)
        clear HLq HL1 HB1
        have hjn : (Cg.ns xs j).n ≤ 200 := by show j ≤ 200; omega
        have HQ := Mm.hid hL
        go_wp2_with fail
        go_loopw [10] (fun va wr => ∃ a : Nat, 1 ≤ a ∧ a ≤ j + 1 ∧ va = .int .i64 (a : Int) ∧ Hid (Below wq.heap.size wq wr)) (fun va _ => j + 1 - (RowKit.intOf va).toNat)
        case atStart => exact ⟨1, by omega, by omega, rfl, Mm.hid (Below.refl _ _)⟩
        case round =>
          obtain ⟨a, ha1, ha2, rfl, HBr⟩ := hrel
          rename World => wr
          by_cases hal : a ≤ j
          · have g2 : (a : Int) ≤ (j : Int) := by omega
            go_wp2_with fail
            go_loopw [11] (fun vb ws => ∃ k : Nat, k + 1 ≤ a ∧ vb = .int .i64 ((k : Int) + 1) ∧ Hid (Below wq.heap.size wq ws)) (fun vb _ => a - (RowKit.intOf vb).toNat)
            case atStart => exact ⟨0, by omega, rfl, HBr⟩
            case round =>
              obtain ⟨k, hk, rfl, HBs⟩ := hrel
              rename World => ws
              by_cases hka : k + 1 < a
              · obtain ⟨x, hx⟩ : ∃ x, xs[k]? = some x := ⟨_, List.getElem?_eq_getElem (by rw [HX.out.len]; omega)⟩
                obtain ⟨hx256, b, o, rfl, hbl, hbc⟩ := HX.out.at_ k x hx
                have HEN : Hid (Cg.en xs k = x) := Mm.hid (by unfold Cg.en; rw [List.getD_eq_getElem?_getD, hx]; rfl)
                have HB9 := Mm.hid (HBq.out.trans (HBs.out.mono HBq.out.size))
                have c1 : ws.cell? ⟨b, o + k, none⟩ = some (.int .u8 (x : Int)) := (HB9.out.cell (p := ⟨b, o + k, none⟩) hbl).trans hbc
                have HVs := Mm.hid (HVq.out.below HBs.out)
                have HS : Hid (Cg.sees (Cg.ns xs j) (a : Int) ((k : Int) + 1) = !(Cg.en xs k % 3 == 0) ∧ Cg.sees (Cg.ns xs j) ((k : Int) + 1) (a : Int) = false ∧ Cg.beside (Cg.ns xs j) (a : Int) ((k : Int) + 1) = false) := Mm.hid (Cg.ns_sees xs j a (k + 1) (by omega) hka hal)
                have g3 : (k : Int) + 1 < (a : Int) := by omega
                have g4 : (0 : Int) ≤ (k : Int) := by omega
                have g6 : (k : Int) < (j : Int) := by omega
                have g7 : IntKind.i64.wrap (k : Int) = (k : Int) := by rw [IntKind.wrap_i64]; omega
                clear hx hbl hbc HB9
                by_cases h3 : x % 3 = 0
                · skip
                  have g5 : ((x : Int).tmod 3 != 0) = false := by rw [Int.tmod_eq_emod_of_nonneg (by omega)]; simp; omega
                  have hs1 : Cg.sees (Cg.ns xs j) (a : Int) ((k : Int) + 1) = false := by rw [HS.out.1, HEN.out]; simp [h3]
                  clear h3
                  have HV0 : Hid (Mm.Lv ws.drew (.pointer (some ⟨p, 0, none⟩)) (Cg.ns xs j)) := Mm.hid (HVs.out.below (Below.refl _ _).drew)
                  have HB0 : Hid (Below wq.heap.size wq ws.drew) := Mm.hid HBs.out.drew
                  have HC0 : Hid (ws.drew.cell? ⟨b, o + k, none⟩ = some (.int .u8 (x : Int))) := Mm.hid c1
                  clear c1
                  go_wp2_with fail
                  go_region_held3 (fun w' => w'.cell? ⟨b, o + k, none⟩ = some (.int .u8 (x : Int))) (first | (with_reducible exact HC0.out) | (with_reducible exact HC5.out) | (with_reducible exact HC6.out) | (with_reducible exact HC7.out)) ((first
                    | (go_at_call 12
                       first
                         | (with_reducible refine (sees_any _ _ (Cg.ns xs j) (a : Int) ((k : Int) + 1) HV0 hjn).mono ?_
                            rintro e w5 ⟨rfl, hb⟩
                            rw [hs1]
                            have HV5 := Mm.hid (HV0.out.below hb)
                            have HB5 := Mm.hid (HB0.out.trans (hb.mono HB0.out.size))
                            have HC5 := Mm.hid ((hb.cell (p := ⟨b, o + k, none⟩) (World.block_lt_of_cell? _ _ HC0.out)).trans HC0.out)
                            clear hb)
                         | (with_reducible refine (sees_any _ _ (Cg.ns xs j) ((k : Int) + 1) (a : Int) HV5 hjn).mono ?_
                            rintro e w6 ⟨rfl, hb⟩
                            rw [HS.out.2.1]
                            have HV6 := Mm.hid (HV5.out.below hb)
                            have HB6 := Mm.hid (HB5.out.trans (hb.mono HB5.out.size))
                            have HC6 := Mm.hid ((hb.cell (p := ⟨b, o + k, none⟩) (World.block_lt_of_cell? _ _ HC5.out)).trans HC5.out)
                            clear hb))
                    | (go_at_call 14
                       refine (beside_any _ _ (Cg.ns xs j) (a : Int) ((k : Int) + 1) HV6 hjn).mono ?_
                       rintro e w7 ⟨rfl, hb⟩
                       rw [HS.out.2.2]
                       have HV7 := Mm.hid (HV6.out.below hb)
                       have HB7 := Mm.hid (HB6.out.trans (hb.mono HB6.out.size))
                       have HC7 := Mm.hid ((hb.cell (p := ⟨b, o + k, none⟩) (World.block_lt_of_cell? _ _ HC6.out)).trans HC6.out)
                       clear hb)))
                  all_goals
                    go_wp2_with fail
                    exact ⟨⟨k + 1, by omega, by go_num, HB7⟩, by simp [RowKit.intOf]; omega⟩
                · skip
                  have g5 : ((x : Int).tmod 3 != 0) = true := by rw [Int.tmod_eq_emod_of_nonneg (by omega)]; simp; omega
                  have hs1 : Cg.sees (Cg.ns xs j) (a : Int) ((k : Int) + 1) = true := by rw [HS.out.1, HEN.out]; simp [h3]
                  clear h3
                  have HV0 : Hid (Mm.Lv ws.drew (.pointer (some ⟨p, 0, none⟩)) (Cg.ns xs j)) := Mm.hid (HVs.out.below (Below.refl _ _).drew)
                  have HB0 : Hid (Below wq.heap.size wq ws.drew) := Mm.hid HBs.out.drew
                  have HC0 : Hid (ws.drew.cell? ⟨b, o + k, none⟩ = some (.int .u8 (x : Int))) := Mm.hid c1
                  clear c1
                  go_wp2_with fail
                  go_region_held3 (fun w' => w'.cell? ⟨b, o + k, none⟩ = some (.int .u8 (x : Int))) (first | (with_reducible exact HC0.out) | (with_reducible exact HC5.out) | (with_reducible exact HC6.out) | (with_reducible exact HC7.out)) ((first
                    | (go_at_call 12
                       first
                         | (with_reducible refine (sees_any _ _ (Cg.ns xs j) (a : Int) ((k : Int) + 1) HV0 hjn).mono ?_
                            rintro e w5 ⟨rfl, hb⟩
                            rw [hs1]
                            have HV5 := Mm.hid (HV0.out.below hb)
                            have HB5 := Mm.hid (HB0.out.trans (hb.mono HB0.out.size))
                            have HC5 := Mm.hid ((hb.cell (p := ⟨b, o + k, none⟩) (World.block_lt_of_cell? _ _ HC0.out)).trans HC0.out)
                            clear hb)
                         | (with_reducible refine (sees_any _ _ (Cg.ns xs j) ((k : Int) + 1) (a : Int) HV5 hjn).mono ?_
                            rintro e w6 ⟨rfl, hb⟩
                            rw [HS.out.2.1]
                            have HV6 := Mm.hid (HV5.out.below hb)
                            have HB6 := Mm.hid (HB5.out.trans (hb.mono HB5.out.size))
                            have HC6 := Mm.hid ((hb.cell (p := ⟨b, o + k, none⟩) (World.block_lt_of_cell? _ _ HC5.out)).trans HC5.out)
                            clear hb))
                    | (go_at_call 14
                       refine (beside_any _ _ (Cg.ns xs j) (a : Int) ((k : Int) + 1) HV6 hjn).mono ?_
                       rintro e w7 ⟨rfl, hb⟩
                       rw [HS.out.2.2]
                       have HV7 := Mm.hid (HV6.out.below hb)
                       have HB7 := Mm.hid (HB6.out.trans (hb.mono HB6.out.size))
                       have HC7 := Mm.hid ((hb.cell (p := ⟨b, o + k, none⟩) (World.block_lt_of_cell? _ _ HC6.out)).trans HC6.out)
                       clear hb)))
                  all_goals
                    go_wp2_with fail
                    exact ⟨⟨k + 1, by omega, by go_num, HB7⟩, by simp [RowKit.intOf]; omega⟩
              · obtain rfl : a = k + 1 := by omega
                go_wp2_with fail
                exact ⟨⟨k + 1 + 1, by omega, by omega, by go_num, HBs⟩, by simp [RowKit.intOf]; omega⟩
          · obtain rfl : a = j + 1 := by omega
            have HVr := Mm.hid (HVq.out.below HBr.out)
            have HB4 := Mm.hid (HBq.out.trans (HBr.out.mono HBq.out.size))
            clear HVq HBq HBr
            go_wp2_with fail
            refine (running_any wr _ (Cg.ns xs j) HVr (Mm.hid (Cg.ns_inv xs j hjn))).mono ?_
            rintro e w5 ⟨vr, rfl, ho, hb⟩
            obtain ⟨qr, cr, rfl, -, -, -, -⟩ := ho.shape
            rw [Mm.nts_len, Cg.ns_running]
            have HV5 := Mm.hid (HVr.out.below hb)
            have HB5 := Mm.hid (HB4.out.trans (hb.mono HB4.out.size))
            clear ho hb
            go_wp2_with fail
            refine (horizon_any w5 _ (Cg.ns xs j) HV5 (Mm.hid (Cg.ns_inv xs j hjn))).mono ?_
            rintro e w6 ⟨rfl, hb⟩
            rw [Cg.ns_horizon]
            have HB6 := Mm.hid (HB5.out.trans (hb.mono HB5.out.size))
            have g9 : ((Cg.cn xs j : Int) == (Cg.cn xs j : Int)) = true := by simp
            clear hb
            go_wp2_with fail
            refine (wakes_any w6).mono ?_
            rintro e w7 ⟨rfl, hb⟩
            have HB7 := Mm.hid (HB6.out.trans (hb.mono HB6.out.size))
            clear hb
            go_wp2_with fail
            go_ret
            exact ⟨rfl, HB7.out⟩
end Go.Proofs.Ytdbbamjijhaeoaa
