/- ClogPlays walked. -/
import Derived.Test.YtdbbamjijhaeoaaCd8
namespace Go.Proofs.Ytdbbamjijhaeoaa
open Go.RowKit

set_option maxRecDepth 100000 in
set_option maxHeartbeats 16000000 in
theorem clogPlays_law (qs : Option Addr) (L c : Nat) (xs : List Cg.Stp) (n0 n1 : Int) (w : World) (hx0 : Cg.Stps w qs L c xs) (_ : True) :
    Calls Try.prog 3 #[.slice qs L c, .agg #[.int .i64 n0, .int .i64 n1]] w fun e w' => e = .returned (.bool true) ∧ Below w.heap.size w w' := by
  have HX := Mm.hid hx0
  have HBN := Mm.hid ((Below.refl w.heap.size w).alloc (Nat.le_refl _) (.cells #[.int .i64 n0, .int .i64 n1] 23))
  by_cases h60 : 300 < L
  · have g1 : (300 : Int) < (L : Int) := by omega
    clear hx0
    go_enter Try.func3, Try.ntmps3
    go_wp2_with fail
    refine (new_any _).mono ?_
    rintro e w1 ⟨rfl, hl, hb⟩
    have HB1 := Mm.hid (HBN.out.trans (hb.mono HBN.out.size))
    clear hl hb
    go_wp2_with fail
    have HB1a := Mm.hid (HB1.out.alloc HB1.out.size (.cells #[.slice none 0 0, .int .i64 0] 29))
    refine (wakes_any _).mono ?_
    rintro e w2 ⟨rfl, hb⟩
    have HB2 := Mm.hid (HB1a.out.trans (hb.mono HB1a.out.size))
    clear hb
    go_wp2_with fail
    go_ret
    exact ⟨rfl, HB2.out⟩
  · have g1 : ¬ (300 : Int) < (L : Int) := by omega
    have hL : L ≤ 300 := by omega
    clear hx0 h60
    go_enter Try.func3, Try.ntmps3
    go_wp2_with fail
    refine (new_any _).mono ?_
    rintro e w1 ⟨rfl, hl, hb⟩
    have HB1 := Mm.hid (HBN.out.trans (hb.mono HBN.out.size))
    obtain ⟨B, hB⟩ : ∃ B, B = w.heap.size := ⟨_, rfl⟩
    obtain ⟨p, hp⟩ : ∃ p, p = (w.alloc (.cells #[.int .i64 n0, .int .i64 n1] 23)).heap.size := ⟨_, rfl⟩
    have hBp : B < p := by rw [hp, hB]; simp
    have hn0 : w1.cell? ⟨B, 0, none⟩ = some (.int .i64 n0) := (hb.cell (p := ⟨B, 0, none⟩) (by show B < _; rw [← hp]; exact hBp)).trans (by rw [hB]; exact Mm.cellOf (Mm.newAt _ _ rfl) rfl)
    have hn1 : w1.cell? ⟨B, 1, none⟩ = some (.int .i64 n1) := (hb.cell (p := ⟨B, 1, none⟩) (by show B < _; rw [← hp]; exact hBp)).trans (by rw [hB]; exact Mm.cellOf (Mm.newAt _ _ rfl) rfl)
    have hps : (w.alloc (.cells #[.int .i64 n0, .int .i64 n1] 23)).heap.size = w.heap.size + 1 := by simp
    rw [← hp] at hl
    rw [hps] at hp
    simp only [hps, ← hp]
    have hqa := Mm.newAt w1 (.cells #[.slice none 0 0, .int .i64 0] 29) rfl
    obtain ⟨q, hq⟩ : ∃ q, q = w1.heap.size := ⟨_, rfl⟩
    have hpq : p < q := by rw [hq]; exact hl.lt
    rw [← hq] at hqa
    have HP := Mm.hid (And.intro hB hBp)
    have HPQ := Mm.hid hpq
    have HB2 : Hid (Below w.heap.size w (w1.alloc (.cells #[.slice none 0 0, .int .i64 0] 29))) := Mm.hid (HB1.out.alloc HB1.out.size _)
    have HL2 : Hid (Mm.Lg (w1.alloc (.cells #[.slice none 0 0, .int .i64 0] 29)) p Cg.s0) := Mm.hid (hl.below ((Below.refl _ _).alloc (Nat.le_refl _) _))
    have HR2 : Hid (Mm.Rl (w1.alloc (.cells #[.slice none 0 0, .int .i64 0] 29)) q Cg.s0) := Mm.hid (Mm.Rl.zero hqa)
    have HN2 : Hid ((w1.alloc (.cells #[.slice none 0 0, .int .i64 0] 29)).cell? ⟨B, 0, none⟩ = some (.int .i64 n0) ∧ (w1.alloc (.cells #[.slice none 0 0, .int .i64 0] 29)).cell? ⟨B, 1, none⟩ = some (.int .i64 n1)) := Mm.hid ⟨(World.cell?_alloc_lt _ _ _ (by show B < _; omega)).trans hn0, (World.cell?_alloc_lt _ _ _ (by show B < _; omega)).trans hn1⟩
    clear hl hb hn0 hn1 hqa hBp HB1 HBN
    go_wp2_with fail
    rw [← hq, ← hB]
    obtain ⟨W2, hW2⟩ : ∃ W2, w1.alloc (.cells #[.slice none 0 0, .int .i64 0] 29) = W2 := ⟨_, rfl⟩
    rw [hW2] at HB2 HL2 HR2 HN2 ⊢
    clear hW2 hq hp hB
    go_loopw [7] (fun vi wq => ∃ (j : Nat) (s : Cg.S), j ≤ L ∧ vi = .int .i64 (j : Int) ∧ Hid (Cg.Inv s ∧ s.clk ≤ j) ∧ Hid (Mm.Lg wq p s) ∧ Hid (Mm.Rl wq q s) ∧ Hid (Below p W2 wq)) (fun vi _ => L - (RowKit.intOf vi).toNat)
    case atStart => exact ⟨0, Cg.s0, by omega, rfl, Mm.hid ⟨Cg.inv0, Nat.le_refl _⟩, HL2, HR2, Mm.hid (Below.refl _ _)⟩
    case round =>
      obtain ⟨j, s, hj, rfl, HF, HLq, HRq, HBq⟩ := hrel
      rename World => wq
      have HBw : Hid (Below w.heap.size w wq) := Mm.hid (HB2.out.trans (HBq.out.mono (by have := HP.out; omega)))
      by_cases hjm : j < L
      · obtain ⟨x, hx⟩ : ∃ x, xs[j]? = some x := ⟨_, List.getElem?_eq_getElem (by rw [HX.out.len]; exact hjm)⟩
        obtain ⟨b, o, rfl, hbl, hc0, hc1, hc2⟩ := HX.out.at_ j x hx
        have d0 : wq.cell? ⟨b, o + j * 3, none⟩ = some (.int .i64 x.kd) := (HBw.out.cell (p := ⟨b, o + j * 3, none⟩) hbl).trans hc0
        have d1 : wq.cell? ⟨b, o + j * 3 + 1, none⟩ = some (.int .i64 x.xid) := (HBw.out.cell (p := ⟨b, o + j * 3 + 1, none⟩) hbl).trans hc1
        have d2 : wq.cell? ⟨b, o + j * 3 + 2, none⟩ = some (.bool x.rd) := (HBw.out.cell (p := ⟨b, o + j * 3 + 2, none⟩) hbl).trans hc2
        have g2 : (j : Int) < (L : Int) := by omega
        have g3 : (0 : Int) ≤ (j : Int) := by omega
        have HLL := Mm.hid (And.intro hjm hL)
        clear hx hbl hc0 hc1 hc2
        go_wp2_with fail
        refine (play_any wq p q s x HLq HRq HPQ.out (Mm.hid HF.out.1) (by have := HF.out.2; omega)).mono ?_
        rintro e W3 ⟨rfl, hl, hr, hb⟩
        obtain ⟨s3, hs3⟩ : ∃ s3, Cg.stepS s x = s3 := ⟨_, rfl⟩
        have HF3 : Hid (Cg.Inv s3 ∧ s3.clk ≤ j + 1) := Mm.hid (by rw [← hs3]; exact ⟨Cg.stepS_inv HF.out.1 x, Nat.le_trans (Cg.stepS_clk s x) (Nat.succ_le_succ HF.out.2)⟩)
        rw [hs3] at hl hr
        have HL3 := Mm.hid hl
        have HR3 := Mm.hid hr
        have HB3 := Mm.hid (HBq.out.trans hb)
        clear hl hr hb hs3 d0 d1 d2 HF HLq HRq HBw HBq
        by_cases h8 : j % 8 = 0
        · have e1 : ((j : Int) % 8 != 0) = false := by simp; omega
          have e2 : ((j : Int).tmod 8 != 0) = false := by rw [Int.tmod_eq_emod_of_nonneg (by omega)]; exact e1
          clear h8
          go_wp2_with fail
          refine (same_any W3 p q s3 HL3 HR3 (Mm.hid HF3.out.1)).mono ?_
          rintro e W4 ⟨rfl, hb⟩
          have hn3 := HF3.out.1.le
          have HL4 := Mm.hid (HL3.out.below hb)
          have HR4 := Mm.hid (HR3.out.below hb)
          have HB4 := Mm.hid (HB3.out.trans (hb.mono (Nat.le_of_lt HL3.out.lt)))
          have HV4 : Hid (Mm.Lv W4 (.pointer (some ⟨p, 0, none⟩)) s3) := Mm.hid (Or.inl ⟨p, rfl, HL4.out⟩)
          obtain ⟨pr, cr, c4, -, -⟩ := HR4.out.look
          obtain ⟨N, hN⟩ : ∃ N, s3.n = N := ⟨_, rfl⟩
          rw [hN] at c4
          have hN2 : N ≤ 200 := by omega
          have HC4 := Mm.hid c4
          have HQL := Mm.hid HR4.out.lt
          clear hb c4 hN
          go_wp2_with fail
          go_loopw [8] (fun va wr => ∃ a : Nat, a ≤ 12 ∧ a ≤ N + 2 ∧ va = .int .i64 (a : Int) ∧ Hid (Below W4.heap.size W4 wr)) (fun va _ => 12 - (RowKit.intOf va).toNat)
          case atStart => exact ⟨0, by omega, by omega, rfl, Mm.hid (Below.refl _ _)⟩
          case round =>
            obtain ⟨a, ha1, ha2, rfl, HBr⟩ := hrel
            rename World => wr
            have cr0 : wr.cell? ⟨q, 0, none⟩ = some (.slice pr N cr) := (HBr.out.cell (p := ⟨q, 0, none⟩) HQL.out).trans HC4.out
            by_cases haa : a ≤ N + 1 ∧ a < 12
            · have ga : (a : Int) ≤ (N : Int) + 1 := by omega
              have gb : (a : Int) < 12 := by omega
              go_wp2_with fail
              clear cr0
              go_loopw [9] (fun vb ws => ∃ d : Nat, d ≤ 12 ∧ d ≤ N + 2 ∧ vb = .int .i64 (d : Int) ∧ Hid (Below W4.heap.size W4 ws)) (fun vb _ => 12 - (RowKit.intOf vb).toNat)
              case atStart => exact ⟨0, by omega, by omega, rfl, HBr⟩
              case round =>
                obtain ⟨d, hd1, hd2, rfl, HBs⟩ := hrel
                rename World => ws
                have cs0 : ws.cell? ⟨q, 0, none⟩ = some (.slice pr N cr) := (HBs.out.cell (p := ⟨q, 0, none⟩) HQL.out).trans HC4.out
                by_cases hdd : d ≤ N + 1 ∧ d < 12
                · have gc : (d : Int) ≤ (N : Int) + 1 := by omega
                  have gd : (d : Int) < 12 := by omega
                  have HVs := Mm.hid (HV4.out.below HBs.out)
                  have HRs := Mm.hid (HR4.out.below HBs.out)
                  obtain ⟨b1, hb1⟩ : ∃ b1, Cg.sees s3 (a : Int) (d : Int) = b1 := ⟨_, rfl⟩
                  obtain ⟨b2, hb2⟩ : ∃ b2, Cg.beside s3 (a : Int) (d : Int) = b2 := ⟨_, rfl⟩
                  have gB1 : (b1 != b1) = false := by cases b1 <;> rfl
                  have gB2 : (b2 != b2) = false := by cases b2 <;> rfl
                  have HBB := Mm.hid (And.intro hb1 hb2)
                  clear hb1 hb2
                  go_wp2_with fail
                  clear cs0
                  refine (sees_any _ _ s3 (a : Int) (d : Int) HVs hn3).mono ?_
                  rintro e w5 ⟨rfl, hb⟩
                  rw [HBB.out.1]
                  have HVw5 := Mm.hid (HVs.out.below hb)
                  have HRw5 := Mm.hid (HRs.out.below hb)
                  have HBw5 := Mm.hid (HBs.out.trans (hb.mono HBs.out.size))
                  clear hb
                  go_wp2_with fail
                  refine (refSees_any _ q s3 (a : Int) (d : Int) HRw5 hn3).mono ?_
                  rintro e w6 ⟨rfl, hb⟩
                  rw [HBB.out.1]
                  have HVw6 := Mm.hid (HVw5.out.below hb)
                  have HRw6 := Mm.hid (HRw5.out.below hb)
                  have HBw6 := Mm.hid (HBw5.out.trans (hb.mono HBw5.out.size))
                  clear hb
                  go_wp2_with fail
                  refine (beside_any _ _ s3 (a : Int) (d : Int) HVw6 hn3).mono ?_
                  rintro e w7 ⟨rfl, hb⟩
                  rw [HBB.out.2]
                  have HRw7 := Mm.hid (HRw6.out.below hb)
                  have HBw7 := Mm.hid (HBw6.out.trans (hb.mono HBw6.out.size))
                  clear hb
                  go_wp2_with fail
                  refine (refBeside_any _ q s3 (a : Int) (d : Int) HRw7 (Mm.hid HF3.out.1)).mono ?_
                  rintro e w8 ⟨rfl, hb⟩
                  rw [HBB.out.2]
                  have HBw8 := Mm.hid (HBw7.out.trans (hb.mono HBw7.out.size))
                  clear hb
                  go_wp2_with fail
                  exact ⟨⟨d + 1, by omega, by omega, by go_num, HBw8⟩, by simp [RowKit.intOf]; omega⟩
                · by_cases hd3 : d ≤ N + 1
                  · have gc : (d : Int) ≤ (N : Int) + 1 := by omega
                    have gd : ¬ (d : Int) < 12 := by omega
                    go_wp2_with fail
                    exact ⟨⟨a + 1, by omega, by omega, by go_num, HBs⟩, by simp [RowKit.intOf]; omega⟩
                  · have gc : ¬ (d : Int) ≤ (N : Int) + 1 := by omega
                    go_wp2_with fail
                    exact ⟨⟨a + 1, by omega, by omega, by go_num, HBs⟩, by simp [RowKit.intOf]; omega⟩
            · have HL5 := Mm.hid (HL4.out.below HBr.out)
              have HR5 := Mm.hid (HR4.out.below HBr.out)
              have HB5 := Mm.hid (HB4.out.trans (HBr.out.mono (Nat.le_of_lt HL4.out.lt)))
              by_cases ha3 : a ≤ N + 1
              · have gc : (a : Int) ≤ (N : Int) + 1 := by omega
                have gd : ¬ (a : Int) < 12 := by omega
                go_wp2_with fail
                exact ⟨⟨j + 1, s3, by omega, by go_num, HF3, HL5, HR5, HB5⟩, by simp [RowKit.intOf]; omega⟩
              · have gc : ¬ (a : Int) ≤ (N : Int) + 1 := by omega
                go_wp2_with fail
                exact ⟨⟨j + 1, s3, by omega, by go_num, HF3, HL5, HR5, HB5⟩, by simp [RowKit.intOf]; omega⟩
        · have e1 : ((j : Int) % 8 != 0) = true := by simp; omega
          have e2 : ((j : Int).tmod 8 != 0) = true := by rw [Int.tmod_eq_emod_of_nonneg (by omega)]; exact e1
          clear h8
          by_cases hjl : j + 1 < L
          · have e3 : (j : Int) + 1 < (L : Int) := by omega
            go_wp2_with fail
            exact ⟨⟨j + 1, s3, by omega, by go_num, HF3, HL3, HR3, HB3⟩, by simp [RowKit.intOf]; omega⟩
          · have e3 : ¬ (j : Int) + 1 < (L : Int) := by omega
            go_wp2_with fail
            refine (same_any W3 p q s3 HL3 HR3 (Mm.hid HF3.out.1)).mono ?_
            rintro e W4 ⟨rfl, hb⟩
            have hn3 := HF3.out.1.le
            have HL4 := Mm.hid (HL3.out.below hb)
            have HR4 := Mm.hid (HR3.out.below hb)
            have HB4 := Mm.hid (HB3.out.trans (hb.mono (Nat.le_of_lt HL3.out.lt)))
            have HV4 : Hid (Mm.Lv W4 (.pointer (some ⟨p, 0, none⟩)) s3) := Mm.hid (Or.inl ⟨p, rfl, HL4.out⟩)
            obtain ⟨pr, cr, c4, -, -⟩ := HR4.out.look
            obtain ⟨N, hN⟩ : ∃ N, s3.n = N := ⟨_, rfl⟩
            rw [hN] at c4
            have hN2 : N ≤ 200 := by omega
            have HC4 := Mm.hid c4
            have HQL := Mm.hid HR4.out.lt
            clear hb c4 hN
            go_wp2_with fail
            go_loopw [8] (fun va wr => ∃ a : Nat, a ≤ 12 ∧ a ≤ N + 2 ∧ va = .int .i64 (a : Int) ∧ Hid (Below W4.heap.size W4 wr)) (fun va _ => 12 - (RowKit.intOf va).toNat)
            case atStart => exact ⟨0, by omega, by omega, rfl, Mm.hid (Below.refl _ _)⟩
            case round =>
              obtain ⟨a, ha1, ha2, rfl, HBr⟩ := hrel
              rename World => wr
              have cr0 : wr.cell? ⟨q, 0, none⟩ = some (.slice pr N cr) := (HBr.out.cell (p := ⟨q, 0, none⟩) HQL.out).trans HC4.out
              by_cases haa : a ≤ N + 1 ∧ a < 12
              · have ga : (a : Int) ≤ (N : Int) + 1 := by omega
                have gb : (a : Int) < 12 := by omega
                go_wp2_with fail
                clear cr0
                go_loopw [9] (fun vb ws => ∃ d : Nat, d ≤ 12 ∧ d ≤ N + 2 ∧ vb = .int .i64 (d : Int) ∧ Hid (Below W4.heap.size W4 ws)) (fun vb _ => 12 - (RowKit.intOf vb).toNat)
                case atStart => exact ⟨0, by omega, by omega, rfl, HBr⟩
                case round =>
                  obtain ⟨d, hd1, hd2, rfl, HBs⟩ := hrel
                  rename World => ws
                  have cs0 : ws.cell? ⟨q, 0, none⟩ = some (.slice pr N cr) := (HBs.out.cell (p := ⟨q, 0, none⟩) HQL.out).trans HC4.out
                  by_cases hdd : d ≤ N + 1 ∧ d < 12
                  · have gc : (d : Int) ≤ (N : Int) + 1 := by omega
                    have gd : (d : Int) < 12 := by omega
                    have HVs := Mm.hid (HV4.out.below HBs.out)
                    have HRs := Mm.hid (HR4.out.below HBs.out)
                    obtain ⟨b1, hb1⟩ : ∃ b1, Cg.sees s3 (a : Int) (d : Int) = b1 := ⟨_, rfl⟩
                    obtain ⟨b2, hb2⟩ : ∃ b2, Cg.beside s3 (a : Int) (d : Int) = b2 := ⟨_, rfl⟩
                    have gB1 : (b1 != b1) = false := by cases b1 <;> rfl
                    have gB2 : (b2 != b2) = false := by cases b2 <;> rfl
                    have HBB := Mm.hid (And.intro hb1 hb2)
                    clear hb1 hb2
                    go_wp2_with fail
                    clear cs0
                    refine (sees_any _ _ s3 (a : Int) (d : Int) HVs hn3).mono ?_
                    rintro e w5 ⟨rfl, hb⟩
                    rw [HBB.out.1]
                    have HVw5 := Mm.hid (HVs.out.below hb)
                    have HRw5 := Mm.hid (HRs.out.below hb)
                    have HBw5 := Mm.hid (HBs.out.trans (hb.mono HBs.out.size))
                    clear hb
                    go_wp2_with fail
                    refine (refSees_any _ q s3 (a : Int) (d : Int) HRw5 hn3).mono ?_
                    rintro e w6 ⟨rfl, hb⟩
                    rw [HBB.out.1]
                    have HVw6 := Mm.hid (HVw5.out.below hb)
                    have HRw6 := Mm.hid (HRw5.out.below hb)
                    have HBw6 := Mm.hid (HBw5.out.trans (hb.mono HBw5.out.size))
                    clear hb
                    go_wp2_with fail
                    refine (beside_any _ _ s3 (a : Int) (d : Int) HVw6 hn3).mono ?_
                    rintro e w7 ⟨rfl, hb⟩
                    rw [HBB.out.2]
                    have HRw7 := Mm.hid (HRw6.out.below hb)
                    have HBw7 := Mm.hid (HBw6.out.trans (hb.mono HBw6.out.size))
                    clear hb
                    go_wp2_with fail
                    refine (refBeside_any _ q s3 (a : Int) (d : Int) HRw7 (Mm.hid HF3.out.1)).mono ?_
                    rintro e w8 ⟨rfl, hb⟩
                    rw [HBB.out.2]
                    have HBw8 := Mm.hid (HBw7.out.trans (hb.mono HBw7.out.size))
                    clear hb
                    go_wp2_with fail
                    exact ⟨⟨d + 1, by omega, by omega, by go_num, HBw8⟩, by simp [RowKit.intOf]; omega⟩
                  · by_cases hd3 : d ≤ N + 1
                    · have gc : (d : Int) ≤ (N : Int) + 1 := by omega
                      have gd : ¬ (d : Int) < 12 := by omega
                      go_wp2_with fail
                      exact ⟨⟨a + 1, by omega, by omega, by go_num, HBs⟩, by simp [RowKit.intOf]; omega⟩
                    · have gc : ¬ (d : Int) ≤ (N : Int) + 1 := by omega
                      go_wp2_with fail
                      exact ⟨⟨a + 1, by omega, by omega, by go_num, HBs⟩, by simp [RowKit.intOf]; omega⟩
              · have HL5 := Mm.hid (HL4.out.below HBr.out)
                have HR5 := Mm.hid (HR4.out.below HBr.out)
                have HB5 := Mm.hid (HB4.out.trans (HBr.out.mono (Nat.le_of_lt HL4.out.lt)))
                by_cases ha3 : a ≤ N + 1
                · have gc : (a : Int) ≤ (N : Int) + 1 := by omega
                  have gd : ¬ (a : Int) < 12 := by omega
                  go_wp2_with fail
                  exact ⟨⟨j + 1, s3, by omega, by go_num, HF3, HL5, HR5, HB5⟩, by simp [RowKit.intOf]; omega⟩
                · have gc : ¬ (a : Int) ≤ (N : Int) + 1 := by omega
                  go_wp2_with fail
                  exact ⟨⟨j + 1, s3, by omega, by go_num, HF3, HL5, HR5, HB5⟩, by simp [RowKit.intOf]; omega⟩
      · obtain rfl : j = L := by omega
        have HVq : Hid (Mm.Lv wq (.pointer (some ⟨p, 0, none⟩)) s) := Mm.hid (Or.inl ⟨p, rfl, HLq.out⟩)
        have hns := HF.out.1.le
        have HI := Mm.hid HF.out.1
        have HNC : Hid (wq.cell? ⟨B, 0, none⟩ = some (.int .i64 n0) ∧ wq.cell? ⟨B, 1, none⟩ = some (.int .i64 n1)) := Mm.hid ⟨(HBq.out.cell (p := ⟨B, 0, none⟩) HP.out.2).trans HN2.out.1, (HBq.out.cell (p := ⟨B, 1, none⟩) HP.out.2).trans HN2.out.2⟩
        clear HLq HBq
        go_wp2_with fail
        have HVW0 : Hid (Mm.Lv wq.drew (.pointer (some ⟨p, 0, none⟩)) s) := Mm.hid (HVq.out.below (Below.refl _ _).drew)
        have HRW0 : Hid (Mm.Rl wq.drew q s) := Mm.hid HRq.out.drew
        have HBW0 : Hid (Below w.heap.size w wq.drew) := Mm.hid HBw.out.drew
        have HSW0 : Hid (wq.drew.cell? ⟨B, 0, none⟩ = some (.int .i64 n0) ∧ wq.drew.cell? ⟨B, 1, none⟩ = some (.int .i64 n1)) := Mm.hid HNC.out
        have HBB : Hid (B < w.heap.size + 1) := Mm.hid (by have := HP.out.1; omega)
        have HK : Hid (∀ w1 w2 : World, (w1.cell? ⟨B, 0, none⟩ = some (.int .i64 n0) ∧ w1.cell? ⟨B, 1, none⟩ = some (.int .i64 n1)) → Below w1.heap.size w1 w2 → (w2.cell? ⟨B, 0, none⟩ = some (.int .i64 n0) ∧ w2.cell? ⟨B, 1, none⟩ = some (.int .i64 n1))) := Mm.hid (fun w1 w2 h hb => ⟨(hb.cell (World.block_lt_of_cell? _ _ h.1)).trans h.1, (hb.cell (World.block_lt_of_cell? _ _ h.2)).trans h.2⟩)
        obtain ⟨b1, hb1⟩ : ∃ b1, Cg.sees s n0 n1 = b1 := ⟨_, rfl⟩
        obtain ⟨b2, hb2⟩ : ∃ b2, Cg.beside s n0 n1 = b2 := ⟨_, rfl⟩
        have gB1 : (b1 == b1) = true := by cases b1 <;> rfl
        have gB2 : (b2 == b2) = true := by cases b2 <;> rfl
        have HQB := Mm.hid (And.intro hb1 hb2)
        clear hb1 hb2 HVq HRq HBw HNC
        go_region_held3 (fun w' => w'.cell? ⟨B, 0, none⟩ = some (.int .i64 n0) ∧ w'.cell? ⟨B, 1, none⟩ = some (.int .i64 n1)) (first | (with_reducible exact HSw9.out) | (with_reducible exact HSw8.out) | (with_reducible exact HSw7.out) | (with_reducible exact HSw6.out) | (with_reducible exact HSw5.out) | (with_reducible exact HSW0.out)) ((first
          | (go_at_call 12
             refine (sees_any _ _ s n0 n1 HVW0 hns).mono ?_
             rintro e w5 ⟨rfl, hb⟩
             rw [HQB.out.1]
             have HVw5 := Mm.hid (HVW0.out.below hb)
             have HRw5 := Mm.hid (HRW0.out.below hb)
             have HBw5 := Mm.hid (HBW0.out.trans (hb.mono HBW0.out.size))
             have HSw5 := Mm.hid (HK.out _ _ HSW0.out hb)
             clear hb)
          | (go_at_call 13
             refine (refSees_any _ q s n0 n1 HRw5 hns).mono ?_
             rintro e w6 ⟨rfl, hb⟩
             rw [HQB.out.1]
             have HVw6 := Mm.hid (HVw5.out.below hb)
             have HRw6 := Mm.hid (HRw5.out.below hb)
             have HBw6 := Mm.hid (HBw5.out.trans (hb.mono HBw5.out.size))
             have HSw6 := Mm.hid (HK.out _ _ HSw5.out hb)
             clear hb)
          | (go_at_call 14
             refine (beside_any _ _ s n0 n1 HVw6 hns).mono ?_
             rintro e w7 ⟨rfl, hb⟩
             rw [HQB.out.2]
             have HRw7 := Mm.hid (HRw6.out.below hb)
             have HBw7 := Mm.hid (HBw6.out.trans (hb.mono HBw6.out.size))
             have HSw7 := Mm.hid (HK.out _ _ HSw6.out hb)
             clear hb)
          | (go_at_call 15
             refine (refBeside_any _ q s n0 n1 HRw7 HI).mono ?_
             rintro e w8 ⟨rfl, hb⟩
             rw [HQB.out.2]
             have HBw8 := Mm.hid (HBw7.out.trans (hb.mono HBw7.out.size))
             have HSw8 := Mm.hid (HK.out _ _ HSw7.out hb)
             clear hb)
          | (go_at_call 9
             refine (wakes_any _).mono ?_
             rintro e w9 ⟨rfl, hb⟩
             have HBw9 := Mm.hid (HBw8.out.trans (hb.mono HBw8.out.size))
             have HSw9 := Mm.hid (HK.out _ _ HSw8.out hb)
             clear hb)))
        all_goals
          go_wp2_with fail
          go_ret
          exact ⟨rfl, HBw9.out⟩
end Go.Proofs.Ytdbbamjijhaeoaa
