/- HeapClean. -/
import Derived.Test.YtoobljkjhpkghaaHc4
namespace Go.Proofs.Ytoobljkjhpkghaa
open Go.RowKit

namespace Cg
theorem begS_clk (s : S) (rd : Bool) : (begS s rd).clk = s.clk := by unfold begS beg; split <;> rfl
theorem comS_clk (s : S) (x : Int) : (comS s x).clk ≤ s.clk + 1 := by
  unfold comS com
  split
  · exact Nat.le_refl _
  · exact Nat.le_succ _
theorem aboS_clk (s : S) (x : Int) : (aboS s x).clk = s.clk := by unfold aboS abo; split <;> rfl
end Cg

set_option maxRecDepth 100000 in
set_option maxHeartbeats 8000000 in
theorem heapClean_all (pa : Option Addr) (l c : Nat) (zs : List Hp.Stp) (cp : Bool) (w : World) (hx : Hp.Stps w pa l c zs) (_ : True) :
    Calls Try.prog 4 #[.slice pa l c, .bool cp] w fun e w' => e = .returned (.bool true) ∧ Below w.heap.size w w' := by
  have HX := Vl.hid hx
  clear hx
  go_enter Try.func4, Try.ntmps4
  go_wp2_with fail
  refine (new_any w).mono ?_
  rintro e w1 ⟨rfl, hl, hb⟩
  obtain ⟨p, hp⟩ : ∃ p, p = w.heap.size := ⟨_, rfl⟩
  rw [← hp] at hl ⊢
  have HP := Vl.hid hp
  have HL1 := Vl.hid hl
  have HB1 := Vl.hid hb
  clear hl hb hp
  go_wp2_with fail
  refine (hnew_any w1 (p + 1) (by have := HL1.out.lt; omega)).mono ?_
  rintro e w2 ⟨rfl, hr, hb⟩
  obtain ⟨b, hbb⟩ : ∃ b, b = w1.heap.size := ⟨_, rfl⟩
  rw [← hbb] at hr ⊢
  have HR2 := Vl.hid hr
  have HL2 := Vl.hid (HL1.out.below hb)
  have HB2 := Vl.hid (HB1.out.trans (hb.mono HB1.out.size))
  clear hr hb hbb
  go_wp2_with fail
  refine (fair_any pa l c zs w w2 HX HB2).mono ?_
  rintro e w3 hfair
  obtain ⟨bf, rfl, hok, hb⟩ := hfair
  have HR3 := Vl.hid (HR2.out.below hb)
  have HL3 := Vl.hid (HL2.out.below hb)
  have HB3 := Vl.hid (HB2.out.trans (hb.mono HB2.out.size))
  clear hb
  cases bf
  · go_wp2_with fail
    refine (wakes_any w3).mono ?_
    rintro e w4 ⟨rfl, hb⟩
    have HB4 := Vl.hid (HB3.out.trans (hb.mono HB3.out.size))
    clear hb hok
    go_wp2_with fail
    go_ret
    exact ⟨rfl, HB4.out⟩
  · obtain ⟨hl120, hsm⟩ := hok rfl
    have HSM := Vl.hid hsm
    clear hok hsm
    go_wp2_with fail
    go_loopw [7] (fun vi wq => ∃ (j : Nat) (s : Cg.S) (r : Hp.R), j ≤ l ∧ vi = .int .i64 (j : Int) ∧ s.clk ≤ j ∧ Hid (Cg.Inv s) ∧ Hid (Hp.Inv r) ∧ Hid (Hp.Short r) ∧ Hid (Mm.Lg wq p s) ∧ Hid (Hp.Rn wq (p + 1) b r) ∧ Hid (Below w.heap.size w wq)) (fun vi _ => l - (RowKit.intOf vi).toNat)
    case atStart => exact ⟨0, Cg.s0, Hp.r0, by omega, rfl, Nat.le_refl _, Vl.hid Cg.inv0, Vl.hid Hp.inv0, Vl.hid Hp.short0, HL3, HR3, HB3⟩
    case round =>
      clear HL3 HR3 HB3 HL2 HR2 HB2 HL1 HB1
      obtain ⟨j, s, r, hj, rfl, hclk, HS, HI, HSH, HL, HR, HB⟩ := hrel
      rename World => wq
      have hn := HS.out.le
      by_cases hjl : j < l
      · obtain ⟨x, hv⟩ : ∃ x, zs[j]? = some x := ⟨zs[j]'(by rw [HX.out.len]; exact hjl), List.getElem?_eq_getElem _⟩
        obtain ⟨⟨bx, ox, rfl, hbx, d0, d1, d2, d3, d4⟩, r1, r2, r3⟩ := HX.out.at_ j x hv
        have hsm := HSM.out x (List.mem_of_getElem? hv)
        obtain ⟨kd, xid, tid, rd, rp, rc, rxs⟩ := x
        have c0 := (HB.out.cell (p := ⟨bx, ox + j * 5, none⟩) hbx).trans d0
        have c1 := (HB.out.cell (p := ⟨bx, ox + j * 5 + 1, none⟩) hbx).trans d1
        have c2 := (HB.out.cell (p := ⟨bx, ox + j * 5 + 2, none⟩) hbx).trans d2
        have c3 := (HB.out.cell (p := ⟨bx, ox + j * 5 + 3, none⟩) hbx).trans d3
        have c4 := (HB.out.cell (p := ⟨bx, ox + j * 5 + 4, none⟩) hbx).trans d4
        dsimp only at c0 c1 c2 c3 c4
        have HROW : Hid (Vl.RowIn w rp rxs ∧ rxs.length ≤ rc ∧ (rp = none → rxs.length = 0 ∧ rc = 0) ∧ rxs.length ≤ 50 ∧ ∀ v ∈ rxs, v.s.size ≤ 100000) := Vl.hid ⟨r3, r1, r2, hsm.1, fun v hv => Nat.le_trans (hsm.2 v hv) (by decide)⟩
        have i1 : (j : Int) < (l : Int) := by omega
        have i2 : (0 : Int) ≤ (j : Int) := by omega
        clear hv d0 d1 d2 d3 d4 r1 r2 r3 hsm hbx
        have hkd : kd = 0 ∨ kd = 1 ∨ kd = 2 ∨ kd = 3 ∨ kd = 4 ∨ (kd ≠ 0 ∧ kd ≠ 1 ∧ kd ≠ 2 ∧ kd ≠ 3 ∧ kd ≠ 4) := by omega
        rcases hkd with rfl | rfl | rfl | rfl | rfl | ⟨n0, n1, n2, n3, n4⟩
        · have HL0 : Hid (Mm.Lg (wq.alloc (.cells #[.int .i64 0, .int .i64 xid, .int .i64 tid, .bool rd, .slice rp rxs.length rc] 39)) p s) := Vl.hid (HL.out.below ((Below.refl _ _).alloc (Nat.le_refl _) _))
          have HR0 : Hid (Hp.Rn (wq.alloc (.cells #[.int .i64 0, .int .i64 xid, .int .i64 tid, .bool rd, .slice rp rxs.length rc] 39)) (p + 1) b r) := Vl.hid (HR.out.below ((Below.refl _ _).alloc (Nat.le_refl _) _))
          have HB0 : Hid (Below w.heap.size w (wq.alloc (.cells #[.int .i64 0, .int .i64 xid, .int .i64 tid, .bool rd, .slice rp rxs.length rc] 39))) := Vl.hid (HB.out.alloc HB.out.size _)
          have HX0 : Hid ((wq.alloc (.cells #[.int .i64 0, .int .i64 xid, .int .i64 tid, .bool rd, .slice rp rxs.length rc] 39)).heap[wq.heap.size]? = some (.cells #[.int .i64 0, .int .i64 xid, .int .i64 tid, .bool rd, .slice rp rxs.length rc] 39)) := Vl.hid (Mm.newAt wq _ rfl)
          go_wp2_with fail
          refine (begin_any (wq.alloc (.cells #[.int .i64 0, .int .i64 xid, .int .i64 tid, .bool rd, .slice rp rxs.length rc] 39)) p s rd HL0 hn).mono ?_
          rintro e w21 ⟨rfl, hl, hb⟩
          have HL21 : Hid (Mm.Lg w21 p (Cg.begS s rd)) := Vl.hid hl
          have HR21 := Vl.hid (HR0.out.tch hb (Nat.lt_succ_self p))
          have HB21 := Vl.hid (HB0.out.trans (hb.bel (Nat.le_of_eq HP.out.symm) HB0.out.size))
          clear hl hb
          go_wp2_with fail
          exact ⟨⟨j + 1, _, r, by omega, by go_num, Nat.le_trans (Nat.le_of_eq (Cg.begS_clk s rd)) (by omega), Vl.hid (HS.out.begS rd), HI, HSH, HL21, HR21, HB21⟩, by simp [RowKit.intOf]; omega⟩
        · have HL0 : Hid (Mm.Lg (wq.alloc (.cells #[.int .i64 1, .int .i64 xid, .int .i64 tid, .bool rd, .slice rp rxs.length rc] 39)) p s) := Vl.hid (HL.out.below ((Below.refl _ _).alloc (Nat.le_refl _) _))
          have HR0 : Hid (Hp.Rn (wq.alloc (.cells #[.int .i64 1, .int .i64 xid, .int .i64 tid, .bool rd, .slice rp rxs.length rc] 39)) (p + 1) b r) := Vl.hid (HR.out.below ((Below.refl _ _).alloc (Nat.le_refl _) _))
          have HB0 : Hid (Below w.heap.size w (wq.alloc (.cells #[.int .i64 1, .int .i64 xid, .int .i64 tid, .bool rd, .slice rp rxs.length rc] 39))) := Vl.hid (HB.out.alloc HB.out.size _)
          have HX0 : Hid ((wq.alloc (.cells #[.int .i64 1, .int .i64 xid, .int .i64 tid, .bool rd, .slice rp rxs.length rc] 39)).heap[wq.heap.size]? = some (.cells #[.int .i64 1, .int .i64 xid, .int .i64 tid, .bool rd, .slice rp rxs.length rc] 39)) := Vl.hid (Mm.newAt wq _ rfl)
          go_wp2_with fail
          refine (commit_any (wq.alloc (.cells #[.int .i64 1, .int .i64 xid, .int .i64 tid, .bool rd, .slice rp rxs.length rc] 39)) p s xid HL0 hn (by omega)).mono ?_
          rintro e w21 ⟨rfl, hl, hb⟩
          have HL21 : Hid (Mm.Lg w21 p (Cg.comS s xid)) := Vl.hid hl
          have HR21 := Vl.hid (HR0.out.tch hb (Nat.lt_succ_self p))
          have HB21 := Vl.hid (HB0.out.trans (hb.bel (Nat.le_of_eq HP.out.symm) HB0.out.size))
          clear hl hb
          go_wp2_with fail
          exact ⟨⟨j + 1, _, r, by omega, by go_num, Nat.le_trans (Cg.comS_clk s xid) (by omega), Vl.hid (HS.out.comS xid), HI, HSH, HL21, HR21, HB21⟩, by simp [RowKit.intOf]; omega⟩
        · have HL0 : Hid (Mm.Lg (wq.alloc (.cells #[.int .i64 2, .int .i64 xid, .int .i64 tid, .bool rd, .slice rp rxs.length rc] 39)) p s) := Vl.hid (HL.out.below ((Below.refl _ _).alloc (Nat.le_refl _) _))
          have HR0 : Hid (Hp.Rn (wq.alloc (.cells #[.int .i64 2, .int .i64 xid, .int .i64 tid, .bool rd, .slice rp rxs.length rc] 39)) (p + 1) b r) := Vl.hid (HR.out.below ((Below.refl _ _).alloc (Nat.le_refl _) _))
          have HB0 : Hid (Below w.heap.size w (wq.alloc (.cells #[.int .i64 2, .int .i64 xid, .int .i64 tid, .bool rd, .slice rp rxs.length rc] 39))) := Vl.hid (HB.out.alloc HB.out.size _)
          have HX0 : Hid ((wq.alloc (.cells #[.int .i64 2, .int .i64 xid, .int .i64 tid, .bool rd, .slice rp rxs.length rc] 39)).heap[wq.heap.size]? = some (.cells #[.int .i64 2, .int .i64 xid, .int .i64 tid, .bool rd, .slice rp rxs.length rc] 39)) := Vl.hid (Mm.newAt wq _ rfl)
          go_wp2_with fail
          refine (abort_any (wq.alloc (.cells #[.int .i64 2, .int .i64 xid, .int .i64 tid, .bool rd, .slice rp rxs.length rc] 39)) p s xid HL0 hn).mono ?_
          rintro e w21 ⟨rfl, hl, hb⟩
          have HL21 : Hid (Mm.Lg w21 p (Cg.aboS s xid)) := Vl.hid hl
          have HR21 := Vl.hid (HR0.out.tch hb (Nat.lt_succ_self p))
          have HB21 := Vl.hid (HB0.out.trans (hb.bel (Nat.le_of_eq HP.out.symm) HB0.out.size))
          clear hl hb
          go_wp2_with fail
          exact ⟨⟨j + 1, _, r, by omega, by go_num, Nat.le_trans (Nat.le_of_eq (Cg.aboS_clk s xid)) (by omega), Vl.hid (HS.out.aboS xid), HI, HSH, HL21, HR21, HB21⟩, by simp [RowKit.intOf]; omega⟩
        · have HL0 : Hid (Mm.Lg (wq.alloc (.cells #[.int .i64 3, .int .i64 xid, .int .i64 tid, .bool rd, .slice rp rxs.length rc] 39)) p s) := Vl.hid (HL.out.below ((Below.refl _ _).alloc (Nat.le_refl _) _))
          have HR0 : Hid (Hp.Rn (wq.alloc (.cells #[.int .i64 3, .int .i64 xid, .int .i64 tid, .bool rd, .slice rp rxs.length rc] 39)) (p + 1) b r) := Vl.hid (HR.out.below ((Below.refl _ _).alloc (Nat.le_refl _) _))
          have HB0 : Hid (Below w.heap.size w (wq.alloc (.cells #[.int .i64 3, .int .i64 xid, .int .i64 tid, .bool rd, .slice rp rxs.length rc] 39))) := Vl.hid (HB.out.alloc HB.out.size _)
          have HX0 : Hid ((wq.alloc (.cells #[.int .i64 3, .int .i64 xid, .int .i64 tid, .bool rd, .slice rp rxs.length rc] 39)).heap[wq.heap.size]? = some (.cells #[.int .i64 3, .int .i64 xid, .int .i64 tid, .bool rd, .slice rp rxs.length rc] 39)) := Vl.hid (Mm.newAt wq _ rfl)
          go_wp2_with fail
          refine (state_any (wq.alloc (.cells #[.int .i64 3, .int .i64 xid, .int .i64 tid, .bool rd, .slice rp rxs.length rc] 39)) (.pointer (some ⟨p, 0, none⟩)) s xid (Vl.hid (show Mm.Lv (wq.alloc (.cells #[.int .i64 3, .int .i64 xid, .int .i64 tid, .bool rd, .slice rp rxs.length rc] 39)) (.pointer (some ⟨p, 0, none⟩)) s from Or.inl ⟨p, rfl, HL0.out⟩)) hn).mono ?_
          rintro e w30 ⟨rfl, hb⟩
          have HL30 := Vl.hid (HL0.out.below hb)
          have HR30 := Vl.hid (HR0.out.below hb)
          have HB30 := Vl.hid (HB0.out.trans (hb.mono HB0.out.size))
          have HX30 := Vl.hid ((hb.block _ (Mm.heapLt HX0.out)).trans HX0.out)
          have e301 : w30.cell? ⟨wq.heap.size, 1, none⟩ = some (.int .i64 xid) := Mm.cellOf HX30.out rfl
          have e304 : w30.cell? ⟨wq.heap.size, 4, none⟩ = some (.slice rp rxs.length rc) := Mm.cellOf HX30.out rfl
          have eq30 := Mm.heapLt HX30.out
          clear hb
          obtain ⟨k, hk⟩ : ∃ k, k = (Cg.gt s xid).st := ⟨_, rfl⟩
          rw [← hk]
          clear hk
          by_cases h1 : k = 1
          · have g1 : ((k : Int) == 1) = true := by simp; omega
            clear h1
            go_wp2_with fail
            refine (insert_any w30 (p + 1) b r xid rp rc rxs HR30 HI (by have := HROW.out.2.2.2.1; omega) HROW.out.2.2.1 (Vl.hid HROW.out.2.2.2.2) (Vl.hid (HROW.out.1.below HB30.out))).mono ?_
            rintro e w41 ⟨q41, dd41, rfl, hr, hb, hsz⟩
            have HR41 : Hid (Hp.Rn w41 (p + 1) b (Hp.insS r xid q41 dd41 rxs)) := Vl.hid hr
            have HL41 := Vl.hid (HL30.out.keep (hb.block p (Nat.lt_succ_self p)))
            have HB41 := Vl.hid (HB30.out.trans (hb.mono (by have := HP.out; omega)))
            clear hr hb hsz
            go_wp2_with fail
            exact ⟨⟨j + 1, s, _, by omega, by go_num, by omega, HS, Vl.hid (HI.out.insS _ _ _ _), Vl.hid (HSH.out.ins _ _ _ HROW.out.2.2.2.1), HL41, HR41, HB41⟩, by simp [RowKit.intOf]; omega⟩
          · have g1 : ((k : Int) == 1) = false := by simp; omega
            clear h1
            go_wp2_with fail
            exact ⟨⟨j + 1, s, r, by omega, by go_num, by omega, HS, HI, HSH, HL30, HR30, HB30⟩, by simp [RowKit.intOf]; omega⟩
        · have HL0 : Hid (Mm.Lg (wq.alloc (.cells #[.int .i64 4, .int .i64 xid, .int .i64 tid, .bool rd, .slice rp rxs.length rc] 39)) p s) := Vl.hid (HL.out.below ((Below.refl _ _).alloc (Nat.le_refl _) _))
          have HR0 : Hid (Hp.Rn (wq.alloc (.cells #[.int .i64 4, .int .i64 xid, .int .i64 tid, .bool rd, .slice rp rxs.length rc] 39)) (p + 1) b r) := Vl.hid (HR.out.below ((Below.refl _ _).alloc (Nat.le_refl _) _))
          have HB0 : Hid (Below w.heap.size w (wq.alloc (.cells #[.int .i64 4, .int .i64 xid, .int .i64 tid, .bool rd, .slice rp rxs.length rc] 39))) := Vl.hid (HB.out.alloc HB.out.size _)
          have HX0 : Hid ((wq.alloc (.cells #[.int .i64 4, .int .i64 xid, .int .i64 tid, .bool rd, .slice rp rxs.length rc] 39)).heap[wq.heap.size]? = some (.cells #[.int .i64 4, .int .i64 xid, .int .i64 tid, .bool rd, .slice rp rxs.length rc] 39)) := Vl.hid (Mm.newAt wq _ rfl)
          go_wp2_with fail
          refine (may_any (wq.alloc (.cells #[.int .i64 4, .int .i64 xid, .int .i64 tid, .bool rd, .slice rp rxs.length rc] 39)) (p + 1) b (.pointer (some ⟨p, 0, none⟩)) r s xid tid HR0 HI (Vl.hid (show Mm.Lv (wq.alloc (.cells #[.int .i64 4, .int .i64 xid, .int .i64 tid, .bool rd, .slice rp rxs.length rc] 39)) (.pointer (some ⟨p, 0, none⟩)) s from Or.inl ⟨p, rfl, HL0.out⟩)) hn).mono ?_
          rintro e w30 ⟨rfl, hb⟩
          have HL30 := Vl.hid (HL0.out.below hb)
          have HR30 := Vl.hid (HR0.out.below hb)
          have HB30 := Vl.hid (HB0.out.trans (hb.mono HB0.out.size))
          have HX30 := Vl.hid ((hb.block _ (Mm.heapLt HX0.out)).trans HX0.out)
          have e301 : w30.cell? ⟨wq.heap.size, 1, none⟩ = some (.int .i64 xid) := Mm.cellOf HX30.out rfl
          have e302 : w30.cell? ⟨wq.heap.size, 2, none⟩ = some (.int .i64 tid) := Mm.cellOf HX30.out rfl
          have eq30 := Mm.heapLt HX30.out
          clear hb
          obtain ⟨E, hE⟩ : ∃ E, E = Hp.mayE s r xid tid := ⟨_, rfl⟩
          rw [← hE]
          clear hE
          by_cases h0 : E = 0
          · have g0 : ((E : Int) == 0) = true := by simp; omega
            clear h0
            go_wp2_with fail
            refine (state_any w30 (.pointer (some ⟨p, 0, none⟩)) s xid (Vl.hid (show Mm.Lv w30 (.pointer (some ⟨p, 0, none⟩)) s from Or.inl ⟨p, rfl, HL30.out⟩)) hn).mono ?_
            rintro e w40 ⟨rfl, hb⟩
            have HL40 := Vl.hid (HL30.out.below hb)
            have HR40 := Vl.hid (HR30.out.below hb)
            have HB40 := Vl.hid (HB30.out.trans (hb.mono HB30.out.size))
            have HX40 := Vl.hid ((hb.block _ (Mm.heapLt HX30.out)).trans HX30.out)
            have e401 : w40.cell? ⟨wq.heap.size, 1, none⟩ = some (.int .i64 xid) := Mm.cellOf HX40.out rfl
            have e402 : w40.cell? ⟨wq.heap.size, 2, none⟩ = some (.int .i64 tid) := Mm.cellOf HX40.out rfl
            have eq40 := Mm.heapLt HX40.out
            clear hb
            obtain ⟨k, hk⟩ : ∃ k, k = (Cg.gt s xid).st := ⟨_, rfl⟩
            rw [← hk]
            clear hk
            by_cases h1 : k = 1
            · have g1 : ((k : Int) == 1) = true := by simp; omega
              clear h1
              go_wp2_with fail
              refine (delete_any w40 (p + 1) b r xid tid HR40 HI).mono ?_
              rintro e w51 ⟨rfl, hr, hb, hsz⟩
              have HR51 : Hid (Hp.Rn w51 (p + 1) b (Hp.delS r xid tid)) := Vl.hid hr
              have HL51 := Vl.hid (HL40.out.keep (hb.block p (Nat.lt_succ_self p)))
              have HB51 := Vl.hid (HB40.out.trans (hb.mono (by have := HP.out; omega)))
              clear hr hb hsz
              go_wp2_with fail
              exact ⟨⟨j + 1, s, _, by omega, by go_num, by omega, HS, Vl.hid (HI.out.delS _ _), Vl.hid (HSH.out.del _ _), HL51, HR51, HB51⟩, by simp [RowKit.intOf]; omega⟩
            · have g1 : ((k : Int) == 1) = false := by simp; omega
              clear h1
              go_wp2_with fail
              exact ⟨⟨j + 1, s, r, by omega, by go_num, by omega, HS, HI, HSH, HL40, HR40, HB40⟩, by simp [RowKit.intOf]; omega⟩
          · have g0 : ((E : Int) == 0) = false := by simp; omega
            clear h0
            go_wp2_with fail
            exact ⟨⟨j + 1, s, r, by omega, by go_num, by omega, HS, HI, HSH, HL30, HR30, HB30⟩, by simp [RowKit.intOf]; omega⟩
        · have HL0 : Hid (Mm.Lg (wq.alloc (.cells #[.int .i64 kd, .int .i64 xid, .int .i64 tid, .bool rd, .slice rp rxs.length rc] 39)) p s) := Vl.hid (HL.out.below ((Below.refl _ _).alloc (Nat.le_refl _) _))
          have HR0 : Hid (Hp.Rn (wq.alloc (.cells #[.int .i64 kd, .int .i64 xid, .int .i64 tid, .bool rd, .slice rp rxs.length rc] 39)) (p + 1) b r) := Vl.hid (HR.out.below ((Below.refl _ _).alloc (Nat.le_refl _) _))
          have HB0 : Hid (Below w.heap.size w (wq.alloc (.cells #[.int .i64 kd, .int .i64 xid, .int .i64 tid, .bool rd, .slice rp rxs.length rc] 39))) := Vl.hid (HB.out.alloc HB.out.size _)
          have HX0 : Hid ((wq.alloc (.cells #[.int .i64 kd, .int .i64 xid, .int .i64 tid, .bool rd, .slice rp rxs.length rc] 39)).heap[wq.heap.size]? = some (.cells #[.int .i64 kd, .int .i64 xid, .int .i64 tid, .bool rd, .slice rp rxs.length rc] 39)) := Vl.hid (Mm.newAt wq _ rfl)
          have m0 : (kd == 0) = false := by simpa using n0
          have m1 : (kd == 1) = false := by simpa using n1
          have m2 : (kd == 2) = false := by simpa using n2
          have m3 : (kd == 3) = false := by simpa using n3
          have m4 : (kd == 4) = false := by simpa using n4
          clear n0 n1 n2 n3 n4
          go_wp2_with fail
          exact ⟨⟨j + 1, s, r, by omega, by go_num, by omega, HS, HI, HSH, HL0, HR0, HB0⟩, by simp [RowKit.intOf]; omega⟩
      · obtain rfl : j = l := by omega
        go_wp2_with fail
        by_cases h200 : s.n = 200
        · refine (begin_any wq p s true HL hn).mono ?_
          rintro e w101 ⟨rfl, hl, hb⟩
          have HL101 := Vl.hid hl
          have HR101 := Vl.hid (HR.out.tch hb (Nat.lt_succ_self p))
          have HB101 := Vl.hid (HB.out.trans (hb.bel (Nat.le_of_eq HP.out.symm) HB.out.size))
          clear hl hb
          rw [show (Cg.begA s : Int) = 0 from by unfold Cg.begA; rw [if_pos h200]; rfl, show (Cg.begE s : Int) = 74 from by unfold Cg.begE; rw [if_pos h200]; rfl]
          clear h200
          go_wp2_with fail
          refine (wakes_any w101).mono ?_
          rintro e w102 ⟨rfl, hb⟩
          have HB102 := Vl.hid (HB101.out.trans (hb.mono HB101.out.size))
          clear hb
          go_wp2_with fail
          go_ret
          exact ⟨rfl, HB102.out⟩
        · have h200' := h200
          have hn1 : s.n + 1 ≤ 200 := by omega
          have HBG : Hid (Cg.begS s true = Cg.beg s true) := Vl.hid (by unfold Cg.begS; rw [if_neg h200'])
          clear h200'
          refine (begin_any wq p s true HL hn).mono ?_
          rintro e w121 ⟨rfl, hl, hb⟩
          have HL121 := Vl.hid hl
          have HR121 := Vl.hid (HR.out.tch hb (Nat.lt_succ_self p))
          have HB121 := Vl.hid (HB.out.trans (hb.bel (Nat.le_of_eq HP.out.symm) HB.out.size))
          clear hl hb
          rw [show (Cg.begA s : Int) = ((s.n + 1 : Nat) : Int) from by unfold Cg.begA; rw [if_neg h200], show (Cg.begE s : Int) = 0 from by unfold Cg.begE; rw [if_neg h200]; rfl]
          clear h200
          go_wp2_with fail
          obtain ⟨S, hS⟩ : ∃ S, S = Cg.begS s true := ⟨_, rfl⟩
          have HSS : Hid (Cg.Inv S) := Vl.hid (by rw [hS]; exact HS.out.begS true)
          have HNOW : Hid (s.n + 1 ∈ Cg.running S) := Vl.hid (by
            rw [hS, HBG.out]
            show s.n + 1 ∈ Cg.runs (Cg.beg s true).f (s.n + 1)
            rw [Cg.runs, show (Cg.beg s true).f (s.n + 1) = ⟨1, 0, s.clk, true⟩ from Cg.upd_same _ _ _]
            simp)
          have hnS : S.n ≤ 200 := HSS.out.le
          replace HL121 : Hid (Mm.Lg w121 p S) := Vl.hid (by rw [hS]; exact HL121.out)
          clear hS
          refine (running_any w121 (.pointer (some ⟨p, 0, none⟩)) S (Vl.hid (show Mm.Lv w121 (.pointer (some ⟨p, 0, none⟩)) S from Or.inl ⟨p, rfl, HL121.out⟩)) HSS).mono ?_
          rintro e w122 ⟨v122, rfl, ho, hb⟩
          obtain ⟨qr, cr, hq, -, -, -, -⟩ := ho.shape
          rw [Mm.nts_len] at hq
          obtain ⟨N, hN⟩ : ∃ N, N = (Cg.running S).length := ⟨_, rfl⟩
          rw [← hN] at hq
          subst hq
          have HN := Vl.hid hN
          have hN200 : N ≤ 200 := by rw [hN]; exact Nat.le_trans (Cg.runs_len _ _) hnS
          have HRUN : Hid (Mm.Own w122 w121.heap.size 3 (.slice qr N cr) (Mm.nts (Cg.running S))) := Vl.hid ho
          clear ho hN
          have HL122 := Vl.hid (HL121.out.below hb)
          have HR122 := Vl.hid (HR121.out.below hb)
          have HB122 := Vl.hid (HB121.out.trans (hb.mono HB121.out.size))
          clear hb
          go_wp2_with fail
          go_loopw [14, 15] (fun vo vi wz => ∃ (i : Nat) (ys : List Hp.Wz), i ≤ N ∧ vi = .int .i64 (i : Int) ∧ Hid (Hp.WsIn wz w122.heap.size vo ys) ∧ Hid (ys.map (fun y => y.zs.map Hp.Rz.xs) = ((Cg.running S).take i).map (fun k : Nat => Hp.rowsL S (k : Int) r.vs)) ∧ Hid (Below w122.heap.size w122 wz)) (fun _ vi _ => N - (RowKit.intOf vi).toNat)
          case atStart => exact ⟨0, [], by omega, rfl, Vl.hid (Hp.WsIn.start _ _), Vl.hid rfl, Vl.hid (Below.refl _ _)⟩
          case round =>
            obtain ⟨i, ys, hi, rfl, HW, HE, HZ⟩ := hrel
            rename World => wz
            have HLz := Vl.hid (HL122.out.below HZ.out)
            have HRz := Vl.hid (HR122.out.below HZ.out)
            have HBz := Vl.hid (HB122.out.trans (HZ.out.mono HB122.out.size))
            by_cases hiN : i < N
            · obtain ⟨k, hk⟩ : ∃ k, (Cg.running S)[i]? = some k := ⟨_, List.getElem?_eq_getElem (by rw [← HN.out]; exact hiN)⟩
              obtain ⟨g, cg, e1, -, d0, -, -⟩ := (HRUN.out.below HZ.out).at (Mm.nts_at hk)
              replace e1 : qr = some ⟨g, 0, none⟩ := by injection e1
              subst e1
              have HK := Vl.hid (show ((Cg.running S).take (i + 1)).map (fun k : Nat => Hp.rowsL S (k : Int) r.vs) = ((Cg.running S).take i).map (fun k : Nat => Hp.rowsL S (k : Int) r.vs) ++ [Hp.rowsL S (k : Int) r.vs] from by rw [List.take_add_one, hk, List.map_append]; rfl)
              have HLEN : Hid ((ys.map Hp.Wz.v).length < 1000000) := Vl.hid (by
                have := congrArg List.length HE.out
                rw [List.length_map, List.length_map, List.length_take] at this
                rw [List.length_map]; omega)
              have i1 : (i : Int) < (N : Int) := by omega
              have i2 : (0 : Int) ≤ (i : Int) := by omega
              clear hk
              go_wp2_with fail
              refine (rows_any wz (p + 1) (.pointer (some ⟨b, 0, none⟩)) (.pointer (some ⟨p, 0, none⟩)) r S (k : Int) (Vl.hid (show Hp.Rv wz (p + 1) (.pointer (some ⟨b, 0, none⟩)) r from Or.inl ⟨b, rfl, HRz.out⟩)) HI (Vl.hid (show Mm.Lv wz (.pointer (some ⟨p, 0, none⟩)) S from Or.inl ⟨p, rfl, HLz.out⟩)) hnS).mono ?_
              rintro e w5 ⟨v5, zs5, rfl, hz5, he5, hb⟩
              obtain ⟨q5, c5, hq5, -, -, -, -⟩ := hz5.own.shape
              rw [List.length_map] at hq5
              subst hq5
              have HZ5 : Hid (Below w122.heap.size w122 w5) := Vl.hid (HZ.out.trans (hb.mono HZ.out.size))
              have HW5 := Vl.hid (HW.out.below hb)
              have HY5 : Hid (Hp.RwsIn w5 w122.heap.size (Hp.Wz.v ⟨q5, c5, zs5⟩) zs5) := Vl.hid (hz5.base HZ.out.size)
              have HS5 : Hid (∀ g, Hp.zblk (Hp.Wz.v ⟨q5, c5, zs5⟩) zs5 g → u14.ownBlock ≠ some g) := Vl.hid (fun g hg e => by
                have h1 := (Hp.RwsIn.blk (v := Hp.Wz.v ⟨q5, c5, zs5⟩) hz5 hg).1
                have h2 := (HW.out.own.lt e).1
                omega)
              have HE5 := Vl.hid he5
              clear hz5 he5 hb d0
              go_wp2_with (at_builtin; first
                | (refine Hp.appY w5 rfl _ _ rfl w122.heap.size u14 q5 zs5.length c5 (ys.map Hp.Wz.v) rfl HW5.out.own _ rfl rfl HLEN.out HZ5.out.size ?_
                   intro v6 w6 hown6 hg6 hloc6
                   have HW6 : Hid (Hp.WsIn w6 w122.heap.size v6 (ys ++ [⟨q5, c5, zs5⟩])) := Vl.hid (HW5.out.app (y := ⟨q5, c5, zs5⟩) HY5.out HS5.out hown6 hg6 hloc6)
                   have HZ6 : Hid (Below w122.heap.size w122 w6) := Vl.hid (HZ5.out.grown hg6 HZ5.out.size (fun g e => (HW5.out.own.lt e).2))
                   clear hown6 hg6 hloc6))
              exact ⟨⟨i + 1, _, by omega, by go_num, HW6, Vl.hid (by rw [HK.out, List.map_append, HE.out]; show _ ++ [zs5.map Hp.Rz.xs] = _; rw [HE5.out]), HZ6⟩, by simp [RowKit.intOf]; omega⟩
            · obtain rfl : i = N := by omega
              rw [List.take_of_length_le (Nat.le_of_eq HN.out.symm)] at HE
              have HRUNz := Vl.hid (HRUN.out.below HZ.out)
              cases cp
              · go_wp2_with fail
                refine (vacuum_any wz (p + 1) b (.pointer (some ⟨p, 0, none⟩)) r S HRz HI (Vl.hid (show Mm.Lv wz (.pointer (some ⟨p, 0, none⟩)) S from Or.inl ⟨p, rfl, HLz.out⟩)) HSS).mono ?_
                rintro e w221 ⟨vv, rfl, -, hr, hb⟩
                have HR221 : Hid (Hp.Rn w221 (p + 1) b (Hp.vacS S r)) := Vl.hid hr
                have HL221 := Vl.hid (HLz.out.keep (hb.block p HLz.out.lt (Nat.ne_of_lt (Nat.lt_of_lt_of_le (Nat.lt_succ_self p) HRz.out.lt.2))))
                have HB221 := Vl.hid (HBz.out.trans (hb.bel (Nat.le_of_lt (Nat.lt_of_le_of_lt (Nat.le_of_eq HP.out.symm) (Nat.lt_of_lt_of_le (Nat.lt_succ_self p) HRz.out.lt.2))) HBz.out.size))
                have HW221 := Vl.hid (HW.out.keep (fun g h1 h2 => hb.block g h2 (by have := HR122.out.lt.1; omega)))
                have HRUN221 := Vl.hid (HRUNz.out.keep (fun g hg => hb.block g (HRUNz.out.lt hg).1 (by have := (HRUNz.out.lt hg).2; have := HR121.out.lt.1; omega)))
                have HQ : Hid (∀ k ∈ Cg.running S, Hp.rowsL S (k : Int) (Hp.vacS S r).vs = Hp.rowsL S (k : Int) r.vs) := Vl.hid (fun k hk => Hp.rowsL_vac HSS.out hk r.vs)
                have HI2 : Hid (Hp.Inv (Hp.vacS S r)) := Vl.hid (HI.out.vacS S)
                clear hr hb
                obtain ⟨r2, hr2⟩ : ∃ r2, r2 = Hp.vacS S r := ⟨_, rfl⟩
                rw [← hr2] at HQ HI2 HR221
                clear hr2
                obtain ⟨qw, cw, hqw, -, -, -, -⟩ := HW221.out.own.shape
                rw [List.length_map, show ys.length = i from by have := congrArg List.length HE.out; rw [List.length_map, List.length_map] at this; rw [this, ← HN.out]] at hqw
                subst hqw
                go_wp2_with fail
                go_loopw [16] (fun vi wy => ∃ i2 : Nat, i2 ≤ i ∧ vi = .int .i64 (i2 : Int) ∧ Hid (Below w221.heap.size w221 wy)) (fun vi _ => i - (RowKit.intOf vi).toNat)
                case atStart => exact ⟨0, by omega, rfl, Vl.hid (Below.refl _ _)⟩
                case round =>
                  obtain ⟨i2, hi2, rfl, HY⟩ := hrel
                  rename World => wy
                  have HLy := Vl.hid (HL221.out.below HY.out)
                  have HRy := Vl.hid (HR221.out.below HY.out)
                  have HBy := Vl.hid (HB221.out.trans (HY.out.mono HB221.out.size))
                  by_cases h2i : i2 < i
                  · obtain ⟨k, hk⟩ : ∃ k, (Cg.running S)[i2]? = some k := ⟨_, List.getElem?_eq_getElem (by rw [← HN.out]; exact h2i)⟩
                    obtain ⟨y, hy⟩ : ∃ y, ys[i2]? = some y := ⟨_, List.getElem?_eq_getElem (by have := congrArg List.length HE.out; rw [List.length_map, List.length_map] at this; rw [this, ← HN.out]; exact h2i)⟩
                    have hxe : y.zs.map Hp.Rz.xs = Hp.rowsL S (k : Int) r.vs := by
                      have := congrArg (fun l => l[i2]?) HE.out
                      simp only [List.getElem?_map, hy, hk, Option.map_some, Option.some.injEq] at this
                      exact this
                    have hqk := HQ.out k (List.mem_of_getElem? hk)
                    obtain ⟨g1, cg1, e1, -, d1, -, -⟩ := (HRUN221.out.below HY.out).at (Mm.nts_at hk)
                    obtain ⟨g2, cg2, e2, -, d2, -, -⟩ := (HW221.out.below HY.out).own.at (i := i2) (u := y.v) (by rw [List.getElem?_map, hy]; rfl)
                    replace e1 : qr = some ⟨g1, 0, none⟩ := by injection e1
                    replace e2 : qw = some ⟨g2, 0, none⟩ := by injection e2
                    subst e1 e2
                    have HYF : Hid (∀ W, Below wy.heap.size wy W → Hp.RwsIn W w122.heap.size (.slice y.p y.zs.length y.c) y.zs) := Vl.hid (fun W hW => ((HW221.out.below HY.out).rows y (List.mem_of_getElem? hy)).below hW)
                    have HCR : Hid (∀ W, Below wy.heap.size wy W → Calls Try.prog 31 #[(.pointer (some ⟨p, 0, none⟩)), (.pointer (some ⟨b, 0, none⟩)), .int .i64 (k : Int)] W fun e w' => ∃ q c zs, e = .returned (.slice q zs.length c) ∧ Hp.RwsIn w' W.heap.size (.slice q zs.length c) zs ∧ zs.map Hp.Rz.xs = Hp.rowsL S (k : Int) r2.vs ∧ Below W.heap.size W w') := Vl.hid (fun W hW => rows_shape W (p + 1) (.pointer (some ⟨b, 0, none⟩)) (.pointer (some ⟨p, 0, none⟩)) r2 S (k : Int) (Vl.hid (show Hp.Rv W (p + 1) (.pointer (some ⟨b, 0, none⟩)) r2 from Or.inl ⟨b, rfl, HRy.out.below hW⟩)) HI2 (Vl.hid (show Mm.Lv W (.pointer (some ⟨p, 0, none⟩)) S from Or.inl ⟨p, rfl, HLy.out.below hW⟩)) hnS)
                    have HXE := Vl.hid (And.intro hxe hqk)
                    have HSR : Hid (∀ zs : List Hp.Rz, zs.map Hp.Rz.xs = Hp.rowsL S (k : Int) r2.vs → zs.map Hp.Rz.xs = y.zs.map Hp.Rz.xs ∧ (∀ z ∈ zs, z.xs.length ≤ 100000) ∧ zs.length ≤ 100000) := Vl.hid (fun zs hz => by
                      have hz2 := hz.trans hqk
                      refine ⟨hz2.trans hxe.symm, fun z hzm => Nat.le_trans (HSH.out.rows hz2 z hzm) (by decide), ?_⟩
                      have hl := congrArg List.length hz2
                      unfold Hp.rowsL at hl
                      rw [List.length_map, List.length_map] at hl
                      have h5 := List.length_filter_le (Hp.seen S (k : Int)) r.vs
                      have := HI.out.len
                      omega)
                    have HCC : Hid (Hp.Two g1 g2 i2 (.int .i64 (k : Int)) (.slice y.p y.zs.length y.c) wy wy) := Vl.hid ⟨d1, d2, Below.refl _ _⟩
                    have j1 : (i2 : Int) < (i : Int) := by omega
                    have j2 : (0 : Int) ≤ (i2 : Int) := by omega
                    clear hk hy hxe hqk d1 d2
                    go_wp2_with fail
                    go_region_held3 (fun w' => w'.cell? ⟨g1, i2, none⟩ = some (.int .i64 (k : Int)) ∧ w'.cell? ⟨g2, i2, none⟩ = some (.slice y.p y.zs.length y.c) ∧ Below wy.heap.size wy w')
                      (first | exact Hp.Two.drew HCC.out | exact Hp.Two.keep hb (by assumption))
                      (first | (go_at_call 31; refine (HCR.out _ (Hp.Two.bel (g1 := g1) (g2 := g2) (k := i2) (v1 := .int .i64 (k : Int)) (v2 := .slice y.p y.zs.length y.c) (by assumption))).mono ?_; rintro e w' ⟨q6, c6, zs6, rfl, hz6, he6, hb⟩; have HZ6 := Vl.hid hz6; have HE6 := Vl.hid (HSR.out zs6 he6); clear hz6 he6) | (go_at_call 32; refine (keepRows_gen _ _ _ _ _ _ _ _ _ zs6 y.zs HZ6 (Vl.hid (HYF.out _ (Hp.Two.bel (g1 := g1) (g2 := g2) (k := i2) (v1 := .int .i64 (k : Int)) (v2 := .slice y.p y.zs.length y.c) (by assumption)))) (Vl.hid rfl) (Vl.hid rfl) (Vl.hid HE6.out.1) (Vl.hid HE6.out.2.1) (Vl.hid HE6.out.2.2)).mono ?_; rintro e w' ⟨rfl, hb⟩))
                    rename World => wx
                    have hz : Hp.Two g1 g2 i2 (.int .i64 (k : Int)) (.slice y.p y.zs.length y.c) wy wx := by assumption
                    have HX2 := Vl.hid (HY.out.trans (hz.bel.mono HY.out.size))
                    clear hz
                    go_wp2_with fail
                    exact ⟨⟨i2 + 1, by omega, by go_num, HX2⟩, by simp [RowKit.intOf]; omega⟩
                  · obtain rfl : i2 = i := by omega
                    obtain ⟨qa, ca, e1, hin⟩ := (HRUN221.out.below HY.out).nin
                    replace e1 : qr = qa := by injection e1
                    subst e1
                    have HIN := Vl.hid hin
                    have HMEM : Hid ((s.n : Int) + 1 ∈ (Cg.running S).map (fun n : Nat => (n : Int))) := Vl.hid (List.mem_map.2 ⟨s.n + 1, HNOW.out, by omega⟩)
                    have HLN : Hid (i2 = ((Cg.running S).map (fun n : Nat => (n : Int))).length) := Vl.hid (by rw [List.length_map]; exact HN.out)
                    clear hin
                    go_wp2_with fail
                    refine (has_any _ ((s.n : Int) + 1) qr i2 cr wy HIN HLN HMEM (by omega)).mono ?_
                    rintro e wv ⟨rfl, hb⟩
                    have HBv := Vl.hid (HBy.out.trans (hb.mono HBy.out.size))
                    clear hb
                    go_wp2_with fail
                    refine (wakes_any wv).mono ?_
                    rintro e w401 ⟨rfl, hb⟩
                    have HB401 := Vl.hid (HBv.out.trans (hb.mono HBv.out.size))
                    clear hb
                    go_wp2_with fail
                    go_ret
                    exact ⟨rfl, HB401.out⟩
              · go_wp2_with fail
                refine (copy_any wz (p + 1) b (.pointer (some ⟨p, 0, none⟩)) r S HRz HI (Vl.hid (show Mm.Lv wz (.pointer (some ⟨p, 0, none⟩)) S from Or.inl ⟨p, rfl, HLz.out⟩)) HSS).mono ?_
                rintro e w301 ⟨b2, rfl, hr, hb⟩
                have HR301 : Hid (Hp.Rn w301 (p + 1) b2 (Hp.copS S r)) := Vl.hid hr
                have HL301 := Vl.hid (HLz.out.below hb)
                have HB301 := Vl.hid (HBz.out.trans (hb.mono HBz.out.size))
                have HW301 := Vl.hid (HW.out.below hb)
                have HRUN301 := Vl.hid (HRUNz.out.below hb)
                have HQ : Hid (∀ k ∈ Cg.running S, Hp.rowsL S (k : Int) (Hp.copS S r).vs = Hp.rowsL S (k : Int) r.vs) := Vl.hid (fun k hk => Hp.rowsL_cop HSS.out hk r)
                have HI2 : Hid (Hp.Inv (Hp.copS S r)) := Vl.hid (HI.out.copS S)
                clear hr hb
                obtain ⟨r2, hr2⟩ : ∃ r2, r2 = Hp.copS S r := ⟨_, rfl⟩
                rw [← hr2] at HQ HI2 HR301
                clear hr2
                obtain ⟨qw, cw, hqw, -, -, -, -⟩ := HW301.out.own.shape
                rw [List.length_map, show ys.length = i from by have := congrArg List.length HE.out; rw [List.length_map, List.length_map] at this; rw [this, ← HN.out]] at hqw
                subst hqw
                go_wp2_with fail
                go_loopw [16] (fun vi wy => ∃ i2 : Nat, i2 ≤ i ∧ vi = .int .i64 (i2 : Int) ∧ Hid (Below w301.heap.size w301 wy)) (fun vi _ => i - (RowKit.intOf vi).toNat)
                case atStart => exact ⟨0, by omega, rfl, Vl.hid (Below.refl _ _)⟩
                case round =>
                  obtain ⟨i2, hi2, rfl, HY⟩ := hrel
                  rename World => wy
                  have HLy := Vl.hid (HL301.out.below HY.out)
                  have HRy := Vl.hid (HR301.out.below HY.out)
                  have HBy := Vl.hid (HB301.out.trans (HY.out.mono HB301.out.size))
                  by_cases h2i : i2 < i
                  · obtain ⟨k, hk⟩ : ∃ k, (Cg.running S)[i2]? = some k := ⟨_, List.getElem?_eq_getElem (by rw [← HN.out]; exact h2i)⟩
                    obtain ⟨y, hy⟩ : ∃ y, ys[i2]? = some y := ⟨_, List.getElem?_eq_getElem (by have := congrArg List.length HE.out; rw [List.length_map, List.length_map] at this; rw [this, ← HN.out]; exact h2i)⟩
                    have hxe : y.zs.map Hp.Rz.xs = Hp.rowsL S (k : Int) r.vs := by
                      have := congrArg (fun l => l[i2]?) HE.out
                      simp only [List.getElem?_map, hy, hk, Option.map_some, Option.some.injEq] at this
                      exact this
                    have hqk := HQ.out k (List.mem_of_getElem? hk)
                    obtain ⟨g1, cg1, e1, -, d1, -, -⟩ := (HRUN301.out.below HY.out).at (Mm.nts_at hk)
                    obtain ⟨g2, cg2, e2, -, d2, -, -⟩ := (HW301.out.below HY.out).own.at (i := i2) (u := y.v) (by rw [List.getElem?_map, hy]; rfl)
                    replace e1 : qr = some ⟨g1, 0, none⟩ := by injection e1
                    replace e2 : qw = some ⟨g2, 0, none⟩ := by injection e2
                    subst e1 e2
                    have HYF : Hid (∀ W, Below wy.heap.size wy W → Hp.RwsIn W w122.heap.size (.slice y.p y.zs.length y.c) y.zs) := Vl.hid (fun W hW => ((HW301.out.below HY.out).rows y (List.mem_of_getElem? hy)).below hW)
                    have HCR : Hid (∀ W, Below wy.heap.size wy W → Calls Try.prog 31 #[(.pointer (some ⟨p, 0, none⟩)), (.pointer (some ⟨b2, 0, none⟩)), .int .i64 (k : Int)] W fun e w' => ∃ q c zs, e = .returned (.slice q zs.length c) ∧ Hp.RwsIn w' W.heap.size (.slice q zs.length c) zs ∧ zs.map Hp.Rz.xs = Hp.rowsL S (k : Int) r2.vs ∧ Below W.heap.size W w') := Vl.hid (fun W hW => rows_shape W (p + 1) (.pointer (some ⟨b2, 0, none⟩)) (.pointer (some ⟨p, 0, none⟩)) r2 S (k : Int) (Vl.hid (show Hp.Rv W (p + 1) (.pointer (some ⟨b2, 0, none⟩)) r2 from Or.inl ⟨b2, rfl, HRy.out.below hW⟩)) HI2 (Vl.hid (show Mm.Lv W (.pointer (some ⟨p, 0, none⟩)) S from Or.inl ⟨p, rfl, HLy.out.below hW⟩)) hnS)
                    have HXE := Vl.hid (And.intro hxe hqk)
                    have HSR : Hid (∀ zs : List Hp.Rz, zs.map Hp.Rz.xs = Hp.rowsL S (k : Int) r2.vs → zs.map Hp.Rz.xs = y.zs.map Hp.Rz.xs ∧ (∀ z ∈ zs, z.xs.length ≤ 100000) ∧ zs.length ≤ 100000) := Vl.hid (fun zs hz => by
                      have hz2 := hz.trans hqk
                      refine ⟨hz2.trans hxe.symm, fun z hzm => Nat.le_trans (HSH.out.rows hz2 z hzm) (by decide), ?_⟩
                      have hl := congrArg List.length hz2
                      unfold Hp.rowsL at hl
                      rw [List.length_map, List.length_map] at hl
                      have h5 := List.length_filter_le (Hp.seen S (k : Int)) r.vs
                      have := HI.out.len
                      omega)
                    have HCC : Hid (Hp.Two g1 g2 i2 (.int .i64 (k : Int)) (.slice y.p y.zs.length y.c) wy wy) := Vl.hid ⟨d1, d2, Below.refl _ _⟩
                    have j1 : (i2 : Int) < (i : Int) := by omega
                    have j2 : (0 : Int) ≤ (i2 : Int) := by omega
                    clear hk hy hxe hqk d1 d2
                    go_wp2_with fail
                    go_region_held3 (fun w' => w'.cell? ⟨g1, i2, none⟩ = some (.int .i64 (k : Int)) ∧ w'.cell? ⟨g2, i2, none⟩ = some (.slice y.p y.zs.length y.c) ∧ Below wy.heap.size wy w')
                      (first | exact Hp.Two.drew HCC.out | exact Hp.Two.keep hb (by assumption))
                      (first | (go_at_call 31; refine (HCR.out _ (Hp.Two.bel (g1 := g1) (g2 := g2) (k := i2) (v1 := .int .i64 (k : Int)) (v2 := .slice y.p y.zs.length y.c) (by assumption))).mono ?_; rintro e w' ⟨q6, c6, zs6, rfl, hz6, he6, hb⟩; have HZ6 := Vl.hid hz6; have HE6 := Vl.hid (HSR.out zs6 he6); clear hz6 he6) | (go_at_call 32; refine (keepRows_gen _ _ _ _ _ _ _ _ _ zs6 y.zs HZ6 (Vl.hid (HYF.out _ (Hp.Two.bel (g1 := g1) (g2 := g2) (k := i2) (v1 := .int .i64 (k : Int)) (v2 := .slice y.p y.zs.length y.c) (by assumption)))) (Vl.hid rfl) (Vl.hid rfl) (Vl.hid HE6.out.1) (Vl.hid HE6.out.2.1) (Vl.hid HE6.out.2.2)).mono ?_; rintro e w' ⟨rfl, hb⟩))
                    rename World => wx
                    have hz : Hp.Two g1 g2 i2 (.int .i64 (k : Int)) (.slice y.p y.zs.length y.c) wy wx := by assumption
                    have HX2 := Vl.hid (HY.out.trans (hz.bel.mono HY.out.size))
                    clear hz
                    go_wp2_with fail
                    exact ⟨⟨i2 + 1, by omega, by go_num, HX2⟩, by simp [RowKit.intOf]; omega⟩
                  · obtain rfl : i2 = i := by omega
                    obtain ⟨qa, ca, e1, hin⟩ := (HRUN301.out.below HY.out).nin
                    replace e1 : qr = qa := by injection e1
                    subst e1
                    have HIN := Vl.hid hin
                    have HMEM : Hid ((s.n : Int) + 1 ∈ (Cg.running S).map (fun n : Nat => (n : Int))) := Vl.hid (List.mem_map.2 ⟨s.n + 1, HNOW.out, by omega⟩)
                    have HLN : Hid (i2 = ((Cg.running S).map (fun n : Nat => (n : Int))).length) := Vl.hid (by rw [List.length_map]; exact HN.out)
                    clear hin
                    go_wp2_with fail
                    refine (has_any _ ((s.n : Int) + 1) qr i2 cr wy HIN HLN HMEM (by omega)).mono ?_
                    rintro e wv ⟨rfl, hb⟩
                    have HBv := Vl.hid (HBy.out.trans (hb.mono HBy.out.size))
                    clear hb
                    go_wp2_with fail
                    refine (wakes_any wv).mono ?_
                    rintro e w401 ⟨rfl, hb⟩
                    have HB401 := Vl.hid (HBv.out.trans (hb.mono HBv.out.size))
                    clear hb
                    go_wp2_with fail
                    go_ret
                    exact ⟨rfl, HB401.out⟩
end Go.Proofs.Ytoobljkjhpkghaa
