/- The law IndexPlays. -/
import Derived.Test.YtjnaafgiokdcbaaGreatDoorI15
import Derived.Test.YtjnaafgiokdcbaaGreatDoorI8
import Derived.Deep.CutRange
namespace Go.Proofs.YtjnaafgiokdcbaaGreatDoor
open Go.RowKit
attribute [local go_sem] Fl.run_store_float
attribute [local go_sem ↓] Go.wp_at_zero Go.wp_at_succ

set_option maxRecDepth 100000 in
set_option maxHeartbeats 16000000 in
theorem indexPlays_all (fan : Int) (a : Option Addr) (l c : Nat) (zs : List Ix.Stp) (W : World) (hM : Ky.Mx W) (_ : (Lit.int .i64 fan).wf = true) (hz0 : Ix.Stps W a l c zs) : Calls Tryz.prog 3 #[.int .i64 fan, .slice a l c] W fun e w' => e = .returned (.bool true) ∧ Below W.heap.size W w' := by
  have HM := Mm.hid hM
  have HZ := Mm.hid hz0
  have hbig : l ≤ 9223372036854775807 := hz0.big
  clear hM hz0
  by_cases hfan : 2 ≤ fan ∧ fan ≤ 64
  · obtain ⟨f, hf⟩ : ∃ f : Nat, fan = (f : Int) := ⟨fan.toNat, by omega⟩
    subst hf
    have HNW := Mm.hid (newI_q f (by omega) (by omega))
    have HRN := Mm.hid (refNewI_any f (by omega) (by omega))
    clear hfan
    go_enter Tryz.func3, Tryz.ntmps3
    go_wp2_with fail
    refine (HNW.out W).mono ?_
    rintro e w1 ⟨pb, p, t1, rfl, hq1, hb1⟩
    have HB1 := Mm.hid hb1
    have HQ1 := Mm.hid hq1
    clear hb1 hq1
    go_wp2_with fail
    refine (HRN.out w1).mono ?_
    rintro e w2 ⟨rfl, rfl⟩
    obtain ⟨qb, hqb⟩ : ∃ y, y = w1.heap.size + 2 := ⟨_, rfl⟩
    obtain ⟨pr, hpr⟩ : ∃ y, y = w1.heap.size + 1 := ⟨_, rfl⟩
    obtain ⟨B0, hB0⟩ : ∃ y, y = w1.heap.size := ⟨_, rfl⟩
    have HJ2 : Hid (Ix.Jx W (Ix.RW1 w1 f) t1 pb p (Lf.S0 f) 0 B0 qb pr B0 1 (fun _ => .slice none 0 0) (Lf.S0 f)) := Mm.hid (by
      rw [hqb, hpr, hB0]
      have hal : Below (Lf.RW w1 f).heap.size (Lf.RW w1 f) (Ix.RW1 w1 f) := (Below.refl _ _).alloc (Nat.le_refl _) _
      have hbl : Below w1.heap.size w1 (Ix.RW1 w1 f) := (Lf.rw_bel w1 f).trans (hal.mono (Lf.rw_bel w1 f).size)
      have htop : ∀ b, w1.heap.size ≤ b → t1 b = none := HQ1.out.q.top
      refine ⟨⟨HQ1.out.q.below hbl, (Lf.rm0 w1 f).below hal, fun b hb => ?_, ⟨HB1.out.size, hbl.size⟩, HB1.out.trans (hbl.mono HB1.out.size)⟩, (hbl.block _ (Mm.heapLt HQ1.out.bx)).trans HQ1.out.bx, HQ1.out.t, Mm.newAt _ _ (Ix.RW_size w1 f).symm, htop _ (by omega)⟩
      rcases hb with h | h | ⟨P, hP, h⟩
      · exact htop b (by omega)
      · exact htop b (by omega)
      · cases h)
    rw [← hqb]
    generalize Ix.RW1 w1 f = w2 at HJ2 ⊢
    clear hqb hpr hB0 HB1 HQ1 HNW HRN
    go_wp2_with fail
    refine (fair11_any a l c zs W w2 HZ (Mm.hid HJ2.out.j.bel) hbig).mono ?_
    rintro e w3 ⟨b, rfl, hf, hb3⟩
    have HJ3 := Mm.hid (HJ2.out.below hb3)
    clear hb3 HJ2
    cases b with
    | false =>
      go_wp2_with fail
      refine (wakesI_any _ (HM.out.below HJ3.out.j.bel)).mono ?_
      rintro e wk ⟨rfl, hb⟩
      have HBK := Mm.hid (Vl.btr HJ3.out.j.bel hb)
      clear hb
      go_wp2_with fail
      go_ret
      exact ⟨rfl, HBK.out⟩
    | true =>
      have hl : l ≤ 150 := hf rfl
      clear hf hbig
      go_wp2_with fail
      go_loopw [9] (fun vi wr => ∃ k : Nat, k ≤ l ∧ vi = .int .i64 (k : Int) ∧ Hid (∃ s tag r c kf, Ix.Jx W wr tag pb p s k B0 qb pr r c kf s)) (fun vi _ => l - (RowKit.intOf vi).toNat)
      case atStart => exact ⟨0, Nat.zero_le _, rfl, Mm.hid ⟨_, _, _, _, _, HJ3.out⟩⟩
      case round =>
        clear HJ3
        obtain ⟨k, hk, rfl, HL⟩ := hrel
        rename World => wr
        obtain ⟨s, tag, r, cr, kf, hj⟩ := HL.out
        have HJ := Mm.hid hj
        clear hj HL
        by_cases hlt : k < l
        · obtain ⟨q, hq⟩ : ∃ q, zs[k]? = some q := ⟨zs[k]'(by rw [HZ.out.len]; exact hlt), List.getElem?_eq_getElem _⟩
          have HF := Mm.hid (HZ.out.fit k q hq)
          obtain ⟨bb, o, ha, hbl, d⟩ := HZ.out.get HJ.out.j.bel hq
          subst ha
          obtain ⟨d0, d1, d2, d3, d4, d5, d6, d7, d8, d9⟩ := d
          have g1 : (0 : Int) ≤ (k : Int) := by omega
          have g2 : (k : Int) < (l : Int) := by omega
          go_upto_region 11 with fail
          clear d0 d1 d2 d3 d4 d5 d6 d7 d8 d9 hq hbl
          obtain ⟨gs, hgs⟩ : ∃ y, y = wr.heap.size := ⟨_, rfl⟩
          obtain ⟨w1, hw1⟩ : ∃ w1, wr.alloc (.cells #[.int .i64 q.kd, .int .i64 q.tid, .int .i64 q.v.k, .int .i64 q.v.n, .float .f64 q.v.f, .string q.v.s, .int .i64 q.x.k, .int .i64 q.x.n, .float .f64 q.x.f, .string q.x.s] 36) = w1 := ⟨_, rfl⟩
          rw [← hgs, hw1]
          have HJ1 : Hid (Ix.Jx W w1 tag pb p s k B0 qb pr r cr kf s) := Mm.hid (by rw [← hw1]; exact HJ.out.below ((Below.refl _ _).alloc (Nat.le_refl _) _))
          have HX1 : Hid (Ix.Bx w1 tag gs (.cells #[.int .i64 q.kd, .int .i64 q.tid, .int .i64 q.v.k, .int .i64 q.v.n, .float .f64 q.v.f, .string q.v.s, .int .i64 q.x.k, .int .i64 q.x.n, .float .f64 q.x.f, .string q.x.s] 36 (0, 0))) := Mm.hid ⟨by rw [← hw1]; exact Mm.newAt _ _ hgs, HJ.out.iq.q.top _ (by omega)⟩
          have HIV : Hid (Lf.Inv s) := Mm.hid HJ.out.j.q.2.1
          have HLA : Hid (s.last ≤ k + 1 ∧ s.pgs.length ≤ s.last) := Mm.hid ⟨HJ.out.j.q.2.2.1, HJ.out.j.q.2.1.ln⟩
          have y0 : w1.cell? ⟨gs, 0, none⟩ = some (.int .i64 q.kd) := Mm.cellOf HX1.out.at_ rfl
          clear hw1 hgs HJ
          go_upto_if 65 with fail
          go_cut [10] from 63 to 105 (fun v10 wx => v10 = .pointer (some ⟨gs, 0, none⟩) ∧ Hid (∃ N s tag r c kf, Ix.Jx W wx tag pb p s N B0 qb pr r c kf s ∧ Ix.Bx wx tag gs (.cells #[.int .i64 q.kd, .int .i64 q.tid, .int .i64 q.v.k, .int .i64 q.v.n, .float .f64 q.v.f, .string q.v.s, .int .i64 q.x.k, .int .i64 q.x.n, .float .f64 q.x.f, .string q.x.s] 36 (0, 0)) ∧ N ≤ k + 1 ∧ (q.kd ≠ 0 → N = k)))
          case first =>
            by_cases hk0 : q.kd = 0
            · have h0 : (q.kd == 0) = true := by rw [hk0]; rfl
              have HK0 := Mm.hid hk0
              clear hk0
              have HPR := Mm.hid (add_any (Mm.hid HJ1.out.iq) (by omega) HJ1.out.j.bel.size q.v q.tid (HM.out.below HJ1.out.j.bel) (Ix.fitIn HF.out.1))
              have y1 : w1.cell? ⟨gs, 1, none⟩ = some (.int .i64 q.tid) := Mm.cellOf HX1.out.at_ rfl
              have y2 : w1.cell? ⟨gs, 2, none⟩ = some (.int .i64 q.v.k) := Mm.cellOf HX1.out.at_ rfl
              have y3 : w1.cell? ⟨gs, 3, none⟩ = some (.int .i64 q.v.n) := Mm.cellOf HX1.out.at_ rfl
              have y4 : w1.cell? ⟨gs, 4, none⟩ = some (.float .f64 q.v.f) := Mm.cellOf HX1.out.at_ rfl
              have y5 : w1.cell? ⟨gs, 5, none⟩ = some (.string q.v.s) := Mm.cellOf HX1.out.at_ rfl
              go_wp2_with fail
              refine HPR.out.mono ?_
              rintro e w2 ⟨s1, l1, f1, m1, r1, rfl, hr, t1, hq, hE⟩
              have HJ2 := Mm.hid (HJ1.out.prog hq hE)
              have HX2 : Hid (Ix.Bx w2 t1 gs (.cells #[.int .i64 q.kd, .int .i64 q.tid, .int .i64 q.v.k, .int .i64 q.v.n, .float .f64 q.v.f, .string q.v.s, .int .i64 q.x.k, .int .i64 q.x.n, .float .f64 q.x.f, .string q.x.s] 36 (0, 0))) := Mm.hid (HX1.out.ev hE)
              have HR := Mm.hid hr
              clear hr hq hE HPR y0 y1 y2 y3 y4 y5
              obtain ⟨gm, hgm⟩ : ∃ y, y = w2.heap.size := ⟨_, rfl⟩
              obtain ⟨w3, hw3⟩ : ∃ w3, w2.alloc (.cells #[.int .i64 (f1 : Int), .int .i64 (m1 : Int)] 38) = w3 := ⟨_, rfl⟩
              have HB3 : Hid (Below w2.heap.size w2 w3) := Mm.hid (by rw [← hw3]; exact (Below.refl _ _).alloc (Nat.le_refl _) _)
              have HM3 : Hid (w3.heap[gm]? = some (.cells #[.int .i64 (f1 : Int), .int .i64 (m1 : Int)] 38 (0, 0))) := Mm.hid (by rw [← hw3]; exact Mm.newAt _ _ hgm)
              have HX3 : Hid (Ix.Bx w3 t1 gs (.cells #[.int .i64 q.kd, .int .i64 q.tid, .int .i64 q.v.k, .int .i64 q.v.n, .float .f64 q.v.f, .string q.v.s, .int .i64 q.x.k, .int .i64 q.x.n, .float .f64 q.x.f, .string q.x.s] 36 (0, 0))) := Mm.hid (HX2.out.below HB3.out)
              have HJ3 := Mm.hid (HJ2.out.below HB3.out)
              have HGM := Mm.hid hgm
              clear hgm
              have HRF := Mm.hid (refAddI_any (Mm.hid HJ3.out.j.m) (Mm.hid HJ3.out.b2) HIV (Mm.hid HJ3.out.j.hb.2) (by have := HLA.out; omega) (by have := HLA.out; omega) q.v q.tid (HM.out.below HJ3.out.j.bel) (Ix.fitIn HF.out.1))
              have y1 : w3.cell? ⟨gs, 1, none⟩ = some (.int .i64 q.tid) := Mm.cellOf HX3.out.at_ rfl
              have y2 : w3.cell? ⟨gs, 2, none⟩ = some (.int .i64 q.v.k) := Mm.cellOf HX3.out.at_ rfl
              have y3 : w3.cell? ⟨gs, 3, none⟩ = some (.int .i64 q.v.n) := Mm.cellOf HX3.out.at_ rfl
              have y4 : w3.cell? ⟨gs, 4, none⟩ = some (.float .f64 q.v.f) := Mm.cellOf HX3.out.at_ rfl
              have y5 : w3.cell? ⟨gs, 5, none⟩ = some (.string q.v.s) := Mm.cellOf HX3.out.at_ rfl
              go_wp2_with fail
              rw [← HGM.out]
              refine HRF.out.mono ?_
              rintro e w4 ⟨s2, l2, f2, m2, r2, rfl, hr2, hO⟩
              obtain ⟨rfl, rfl, rfl, rfl, rfl⟩ := Ix.AddR.det HR.out hr2
              obtain ⟨⟨r', c', kf', hj4⟩, hTc⟩ := HJ3.out.ref hO
              have HJ4 := Mm.hid hj4
              have HX4 : Hid (Ix.Bx w4 t1 gs (.cells #[.int .i64 q.kd, .int .i64 q.tid, .int .i64 q.v.k, .int .i64 q.v.n, .float .f64 q.v.f, .string q.v.s, .int .i64 q.x.k, .int .i64 q.x.n, .float .f64 q.x.f, .string q.x.s] 36 (0, 0))) := Mm.hid (Ix.bx_tc HJ3.out.j.m HX3.out hTc (by decide) (by decide) rfl)
              have HM4 : Hid (w4.heap[gm]? = some (.cells #[.int .i64 (f1 : Int), .int .i64 (m1 : Int)] 38 (0, 0))) := Mm.hid (by
                have n := Ix.box_ne HJ3.out.j.m HM3.out (by decide) (by decide)
                exact (hTc.block _ (Mm.heapLt HM3.out) n.1 n.2).trans HM3.out)
              clear hr2 hO hTc hj4 hw3 HRF y1 y2 y3 y4 y5
              obtain ⟨gd, hgd⟩ : ∃ y, y = w4.heap.size := ⟨_, rfl⟩
              obtain ⟨w5, hw5⟩ : ∃ w5, w4.alloc (.cells #[.int .i64 (l1 : Int), .int .i64 (f1 : Int), .int .i64 (m1 : Int), .int .i64 (r1 : Int)] 42) = w5 := ⟨_, rfl⟩
              have HB5 : Hid (Below w4.heap.size w4 w5) := Mm.hid (by rw [← hw5]; exact (Below.refl _ _).alloc (Nat.le_refl _) _)
              have HD5 : Hid (w5.heap[w4.heap.size]? = some (.cells #[.int .i64 (l1 : Int), .int .i64 (f1 : Int), .int .i64 (m1 : Int), .int .i64 (r1 : Int)] 42 (0, 0))) := Mm.hid (by rw [← hw5]; exact Mm.newAt _ _ rfl)
              have HX5 : Hid (Ix.Bx w5 t1 gs (.cells #[.int .i64 q.kd, .int .i64 q.tid, .int .i64 q.v.k, .int .i64 q.v.n, .float .f64 q.v.f, .string q.v.s, .int .i64 q.x.k, .int .i64 q.x.n, .float .f64 q.x.f, .string q.x.s] 36 (0, 0))) := Mm.hid (HX4.out.below HB5.out)
              have HM5 : Hid (w5.heap[gm]? = some (.cells #[.int .i64 (f1 : Int), .int .i64 (m1 : Int)] 38 (0, 0))) := Mm.hid ((HB5.out.block _ (Mm.heapLt HM4.out)).trans HM4.out)
              have HJ5 := Mm.hid (HJ4.out.below HB5.out)
              clear hgd
              have a0 : w5.cell? ⟨gm, 0, none⟩ = some (.int .i64 (f1 : Int)) := Mm.cellOf HM5.out rfl
              have a1 : w5.cell? ⟨gm, 1, none⟩ = some (.int .i64 (m1 : Int)) := Mm.cellOf HM5.out rfl
              have b0 : w5.cell? ⟨w4.heap.size, 0, none⟩ = some (.int .i64 (l1 : Int)) := Mm.cellOf HD5.out rfl
              have b1 : w5.cell? ⟨w4.heap.size, 1, none⟩ = some (.int .i64 (f1 : Int)) := Mm.cellOf HD5.out rfl
              have b2 : w5.cell? ⟨w4.heap.size, 2, none⟩ = some (.int .i64 (m1 : Int)) := Mm.cellOf HD5.out rfl
              have b3 : w5.cell? ⟨w4.heap.size, 3, none⟩ = some (.int .i64 (r1 : Int)) := Mm.cellOf HD5.out rfl
              go_wp2_with fail
              go_meet
              case rel => exact ⟨rfl, Mm.hid ⟨k + 1, _, _, _, _, _, HJ5.out, HX5.out, Nat.le_refl _, fun h => absurd HK0.out h⟩⟩
            · have h0 : (q.kd == 0) = false := beq_eq_false_iff_ne.2 hk0
              clear hk0
              go_wp2_with fail
              go_meet
              case rel => exact ⟨rfl, Mm.hid ⟨k, _, _, _, _, _, HJ1.out, HX1.out, Nat.le_succ _, fun _ => rfl⟩⟩
          case rest =>
          obtain ⟨h10, hwx⟩ := hcut
          subst h10
          clear HJ1 HX1 HIV HLA y0 w1
          rename World => w1
          obtain ⟨N, s, tag, r, cr, kf, hj1, hx1, hN1, hN2⟩ := hwx.out
          have HJ1 := Mm.hid hj1
          have HX1 := Mm.hid hx1
          have HNK : Hid (N ≤ k + 1 ∧ (q.kd ≠ 0 → N = k)) := Mm.hid ⟨hN1, hN2⟩
          have HIV : Hid (Lf.Inv s) := Mm.hid HJ1.out.j.q.2.1
          have HLA : Hid (s.last ≤ N + 1 ∧ s.pgs.length ≤ s.last) := Mm.hid ⟨HJ1.out.j.q.2.2.1, HJ1.out.j.q.2.1.ln⟩
          clear hj1 hx1 hN1 hN2 hwx
          have y0 : w1.cell? ⟨gs, 0, none⟩ = some (.int .i64 q.kd) := Mm.cellOf HX1.out.at_ rfl
          go_upto_if 108 with fail
          go_cut [10] from 106 to 148 (fun v10 wx => v10 = .pointer (some ⟨gs, 0, none⟩) ∧ Hid (∃ s tag r c kf, Ix.Jx W wx tag pb p s (k + 1) B0 qb pr r c kf s ∧ wx.heap[gs]? = some (.cells #[.int .i64 q.kd, .int .i64 q.tid, .int .i64 q.v.k, .int .i64 q.v.n, .float .f64 q.v.f, .string q.v.s, .int .i64 q.x.k, .int .i64 q.x.n, .float .f64 q.x.f, .string q.x.s] 36 (0, 0))))
          case first =>
            by_cases hk1 : q.kd = 1
            · have h0 : (q.kd == 1) = true := by rw [hk1]; rfl
              have hNk : N = k := HNK.out.2 (by rw [hk1]; decide)
              subst hNk
              clear hk1 HNK
              have HPR := Mm.hid (drop_any (Mm.hid HJ1.out.iq) (by omega) HJ1.out.j.bel.size q.v q.tid (HM.out.below HJ1.out.j.bel) (Ix.fitIn HF.out.1))
              have y1 : w1.cell? ⟨gs, 1, none⟩ = some (.int .i64 q.tid) := Mm.cellOf HX1.out.at_ rfl
              have y2 : w1.cell? ⟨gs, 2, none⟩ = some (.int .i64 q.v.k) := Mm.cellOf HX1.out.at_ rfl
              have y3 : w1.cell? ⟨gs, 3, none⟩ = some (.int .i64 q.v.n) := Mm.cellOf HX1.out.at_ rfl
              have y4 : w1.cell? ⟨gs, 4, none⟩ = some (.float .f64 q.v.f) := Mm.cellOf HX1.out.at_ rfl
              have y5 : w1.cell? ⟨gs, 5, none⟩ = some (.string q.v.s) := Mm.cellOf HX1.out.at_ rfl
              go_wp2_with fail
              refine HPR.out.mono ?_
              rintro e w2 ⟨s1, l1, f1, m1, r1, rfl, hr, t1, hq, hE⟩
              have HJ2 := Mm.hid (HJ1.out.prog hq hE)
              have HX2 : Hid (Ix.Bx w2 t1 gs (.cells #[.int .i64 q.kd, .int .i64 q.tid, .int .i64 q.v.k, .int .i64 q.v.n, .float .f64 q.v.f, .string q.v.s, .int .i64 q.x.k, .int .i64 q.x.n, .float .f64 q.x.f, .string q.x.s] 36 (0, 0))) := Mm.hid (HX1.out.ev hE)
              have HR := Mm.hid hr
              clear hr hq hE HPR y0 y1 y2 y3 y4 y5
              obtain ⟨gm, hgm⟩ : ∃ y, y = w2.heap.size := ⟨_, rfl⟩
              obtain ⟨w3, hw3⟩ : ∃ w3, w2.alloc (.cells #[.int .i64 (f1 : Int), .int .i64 (m1 : Int)] 38) = w3 := ⟨_, rfl⟩
              have HB3 : Hid (Below w2.heap.size w2 w3) := Mm.hid (by rw [← hw3]; exact (Below.refl _ _).alloc (Nat.le_refl _) _)
              have HM3 : Hid (w3.heap[gm]? = some (.cells #[.int .i64 (f1 : Int), .int .i64 (m1 : Int)] 38 (0, 0))) := Mm.hid (by rw [← hw3]; exact Mm.newAt _ _ hgm)
              have HX3 : Hid (Ix.Bx w3 t1 gs (.cells #[.int .i64 q.kd, .int .i64 q.tid, .int .i64 q.v.k, .int .i64 q.v.n, .float .f64 q.v.f, .string q.v.s, .int .i64 q.x.k, .int .i64 q.x.n, .float .f64 q.x.f, .string q.x.s] 36 (0, 0))) := Mm.hid (HX2.out.below HB3.out)
              have HJ3 := Mm.hid (HJ2.out.below HB3.out)
              have HGM := Mm.hid hgm
              clear hgm
              have HRF := Mm.hid (refDropI_any (Mm.hid HJ3.out.j.m) (Mm.hid HJ3.out.b2) HIV (Mm.hid HJ3.out.j.hb.2) (by have := HLA.out; omega) (by have := HLA.out; omega) q.v q.tid (HM.out.below HJ3.out.j.bel) (Ix.fitIn HF.out.1))
              have y1 : w3.cell? ⟨gs, 1, none⟩ = some (.int .i64 q.tid) := Mm.cellOf HX3.out.at_ rfl
              have y2 : w3.cell? ⟨gs, 2, none⟩ = some (.int .i64 q.v.k) := Mm.cellOf HX3.out.at_ rfl
              have y3 : w3.cell? ⟨gs, 3, none⟩ = some (.int .i64 q.v.n) := Mm.cellOf HX3.out.at_ rfl
              have y4 : w3.cell? ⟨gs, 4, none⟩ = some (.float .f64 q.v.f) := Mm.cellOf HX3.out.at_ rfl
              have y5 : w3.cell? ⟨gs, 5, none⟩ = some (.string q.v.s) := Mm.cellOf HX3.out.at_ rfl
              go_wp2_with fail
              rw [← HGM.out]
              refine HRF.out.mono ?_
              rintro e w4 ⟨s2, l2, f2, m2, r2, rfl, hr2, hO⟩
              obtain ⟨rfl, rfl, rfl, rfl, rfl⟩ := Ix.DropR.det HR.out hr2
              obtain ⟨⟨r', c', kf', hj4⟩, hTc⟩ := HJ3.out.ref hO
              have HJ4 := Mm.hid hj4
              have HX4 : Hid (Ix.Bx w4 t1 gs (.cells #[.int .i64 q.kd, .int .i64 q.tid, .int .i64 q.v.k, .int .i64 q.v.n, .float .f64 q.v.f, .string q.v.s, .int .i64 q.x.k, .int .i64 q.x.n, .float .f64 q.x.f, .string q.x.s] 36 (0, 0))) := Mm.hid (Ix.bx_tc HJ3.out.j.m HX3.out hTc (by decide) (by decide) rfl)
              have HM4 : Hid (w4.heap[gm]? = some (.cells #[.int .i64 (f1 : Int), .int .i64 (m1 : Int)] 38 (0, 0))) := Mm.hid (by
                have n := Ix.box_ne HJ3.out.j.m HM3.out (by decide) (by decide)
                exact (hTc.block _ (Mm.heapLt HM3.out) n.1 n.2).trans HM3.out)
              clear hr2 hO hTc hj4 hw3 HRF y1 y2 y3 y4 y5
              obtain ⟨gd, hgd⟩ : ∃ y, y = w4.heap.size := ⟨_, rfl⟩
              obtain ⟨w5, hw5⟩ : ∃ w5, w4.alloc (.cells #[.int .i64 (l1 : Int), .int .i64 (f1 : Int), .int .i64 (m1 : Int), .int .i64 (r1 : Int)] 42) = w5 := ⟨_, rfl⟩
              have HB5 : Hid (Below w4.heap.size w4 w5) := Mm.hid (by rw [← hw5]; exact (Below.refl _ _).alloc (Nat.le_refl _) _)
              have HD5 : Hid (w5.heap[w4.heap.size]? = some (.cells #[.int .i64 (l1 : Int), .int .i64 (f1 : Int), .int .i64 (m1 : Int), .int .i64 (r1 : Int)] 42 (0, 0))) := Mm.hid (by rw [← hw5]; exact Mm.newAt _ _ rfl)
              have HX5 : Hid (Ix.Bx w5 t1 gs (.cells #[.int .i64 q.kd, .int .i64 q.tid, .int .i64 q.v.k, .int .i64 q.v.n, .float .f64 q.v.f, .string q.v.s, .int .i64 q.x.k, .int .i64 q.x.n, .float .f64 q.x.f, .string q.x.s] 36 (0, 0))) := Mm.hid (HX4.out.below HB5.out)
              have HM5 : Hid (w5.heap[gm]? = some (.cells #[.int .i64 (f1 : Int), .int .i64 (m1 : Int)] 38 (0, 0))) := Mm.hid ((HB5.out.block _ (Mm.heapLt HM4.out)).trans HM4.out)
              have HJ5 := Mm.hid (HJ4.out.below HB5.out)
              clear hgd
              have a0 : w5.cell? ⟨gm, 0, none⟩ = some (.int .i64 (f1 : Int)) := Mm.cellOf HM5.out rfl
              have a1 : w5.cell? ⟨gm, 1, none⟩ = some (.int .i64 (m1 : Int)) := Mm.cellOf HM5.out rfl
              have b0 : w5.cell? ⟨w4.heap.size, 0, none⟩ = some (.int .i64 (l1 : Int)) := Mm.cellOf HD5.out rfl
              have b1 : w5.cell? ⟨w4.heap.size, 1, none⟩ = some (.int .i64 (f1 : Int)) := Mm.cellOf HD5.out rfl
              have b2 : w5.cell? ⟨w4.heap.size, 2, none⟩ = some (.int .i64 (m1 : Int)) := Mm.cellOf HD5.out rfl
              have b3 : w5.cell? ⟨w4.heap.size, 3, none⟩ = some (.int .i64 (r1 : Int)) := Mm.cellOf HD5.out rfl
              go_wp2_with fail
              go_meet
              case rel => exact ⟨rfl, Mm.hid ⟨_, _, _, _, _, HJ5.out, HX5.out.at_⟩⟩
            · have h0 : (q.kd == 1) = false := beq_eq_false_iff_ne.2 hk1
              clear hk1
              go_wp2_with fail
              go_meet
              case rel => exact ⟨rfl, Mm.hid ⟨_, _, _, _, _, HJ1.out.le HNK.out.1, HX1.out.at_⟩⟩
          case rest =>
            obtain ⟨h10, hwx⟩ := hcut
            subst h10
            rename World => w2
            clear HJ1 HX1 HIV HLA HNK y0
            obtain ⟨s, tag, r, cr, kf, hj, hx2⟩ := hwx.out
            have HJ2 := Mm.hid hj
            have HX2 := Mm.hid hx2
            clear hj hx2 hwx
            have HK9 : Hid (k + 1 ≤ 4900) := Mm.hid (by omega)
            have HCZ : Hid (s.last ≤ 1000 ∧ s.count ≤ 1000) := Mm.hid ⟨by have := HJ2.out.j.q.2.2.1; omega, by have := HJ2.out.j.q.2.2.2; omega⟩
            have HSZ : Hid (Ix.Sz s) := Mm.hid (Ix.sz_of HJ2.out.j.q.2.1 HCZ.out.1 HCZ.out.2)
            have HLN := Mm.hid (Ix.lens HJ2.out.j.q.2.1 HCZ.out.1 HCZ.out.2 q.v q.x)

            have HFI0 := Mm.hid (ifind_any (Mm.hid HJ2.out.iq) HK9.out q.v (HM.out.below HJ2.out.j.bel) (Ix.fitIn HF.out.1))
            have y2 : w2.cell? ⟨gs, 2, none⟩ = some (.int .i64 q.v.k) := Mm.cellOf HX2.out rfl
            have y3 : w2.cell? ⟨gs, 3, none⟩ = some (.int .i64 q.v.n) := Mm.cellOf HX2.out rfl
            have y4 : w2.cell? ⟨gs, 4, none⟩ = some (.float .f64 q.v.f) := Mm.cellOf HX2.out rfl
            have y5 : w2.cell? ⟨gs, 5, none⟩ = some (.string q.v.s) := Mm.cellOf HX2.out rfl
            go_wp2_with fail
            refine HFI0.out.mono ?_
            rintro e w3 ⟨v1, v2, rfl, hT⟩
            obtain ⟨p1, c1, p2, c2, e1, e2, I1, I2⟩ := hT.sh
            obtain ⟨T1, hT1⟩ : ∃ z, z = (Ix.findT s q.v).map (fun n : Nat => (n : Int)) := ⟨_, rfl⟩
            obtain ⟨L1, hL1⟩ : ∃ z, z = (Ix.findL s q.v).map (fun n : Nat => (n : Int)) := ⟨_, rfl⟩
            rw [← hT1] at e1 I1
            rw [← hL1] at e2 I2
            obtain ⟨n1, hn1⟩ : ∃ z, z = T1.length := ⟨_, rfl⟩
            obtain ⟨n2, hn2⟩ : ∃ z, z = L1.length := ⟨_, rfl⟩
            rw [← hn1] at e1
            rw [← hn2] at e2
            subst e1 e2
            have HT1 := Mm.hid hT1
            have HL1 := Mm.hid hL1
            have Hn1 := Mm.hid hn1
            have Hn2 := Mm.hid hn2
            have HIa0 : Hid (Mm.IIn w3 p1 T1) := Mm.hid I1
            have HIb0 : Hid (Mm.IIn w3 p2 L1) := Mm.hid I2
            have HB3 : Hid (Below w2.heap.size w2 w3) := Mm.hid hT.bel
            have HJ3 := Mm.hid (HJ2.out.below HB3.out)
            have HX3 : Hid (w3.heap[gs]? = some (.cells #[.int .i64 q.kd, .int .i64 q.tid, .int .i64 q.v.k, .int .i64 q.v.n, .float .f64 q.v.f, .string q.v.s, .int .i64 q.x.k, .int .i64 q.x.n, .float .f64 q.x.f, .string q.x.s] 36 (0, 0))) := Mm.hid ((HB3.out.block _ (Mm.heapLt HX2.out)).trans HX2.out)
            clear hT1 hL1 hn1 hn2 I1 I2 hT HFI0 y2 y3 y4 y5
            have HRI0 := Mm.hid (refFindI_any (Mm.hid HJ3.out.rx) HSZ q.v (HM.out.below HJ3.out.j.bel) (Ix.fitIn HF.out.1))
            have y2 : w3.cell? ⟨gs, 2, none⟩ = some (.int .i64 q.v.k) := Mm.cellOf HX3.out rfl
            have y3 : w3.cell? ⟨gs, 3, none⟩ = some (.int .i64 q.v.n) := Mm.cellOf HX3.out rfl
            have y4 : w3.cell? ⟨gs, 4, none⟩ = some (.float .f64 q.v.f) := Mm.cellOf HX3.out rfl
            have y5 : w3.cell? ⟨gs, 5, none⟩ = some (.string q.v.s) := Mm.cellOf HX3.out rfl
            go_wp2_with fail
            refine HRI0.out.mono ?_
            rintro e w4 ⟨p3, n3, c3, p4, n4, c4, rfl, hT⟩
            obtain ⟨⟨e3, I3⟩, ⟨e4, I4⟩⟩ := hT.ln
            rw [← HT1.out] at e3 I3
            rw [← HL1.out] at e4 I4
            rw [← Hn1.out] at e3
            rw [← Hn2.out] at e4
            have e3' := e3.symm
            have e4' := e4.symm
            clear e3 e4
            subst e3' e4'
            obtain ⟨ga, hga⟩ : ∃ y, y = w4.heap.size := ⟨_, rfl⟩
            obtain ⟨w5, hw5⟩ : ∃ y, w4.alloc (.cells #[.slice p3 n1 c3, .slice p4 n2 c4] 48) = y := ⟨_, rfl⟩
            have HB5 : Hid (Below w3.heap.size w3 w5) := Mm.hid (by rw [← hw5]; exact hT.bel.alloc hT.bel.size _)
            have HG5 : Hid (w5.heap[ga]? = some (.cells #[.slice p3 n1 c3, .slice p4 n2 c4] 48 (0, 0))) := Mm.hid (by rw [← hw5]; exact Mm.newAt _ _ hga)
            have HIc0 : Hid (Mm.IIn w5 p3 T1) := Mm.hid (by rw [← hw5]; exact I3.below ((Below.refl _ _).alloc (Nat.le_refl _) _))
            have HId0 : Hid (Mm.IIn w5 p4 L1) := Mm.hid (by rw [← hw5]; exact I4.below ((Below.refl _ _).alloc (Nat.le_refl _) _))
            have HJ5 := Mm.hid (HJ3.out.below HB5.out)
            have HX5 : Hid (w5.heap[gs]? = some (.cells #[.int .i64 q.kd, .int .i64 q.tid, .int .i64 q.v.k, .int .i64 q.v.n, .float .f64 q.v.f, .string q.v.s, .int .i64 q.x.k, .int .i64 q.x.n, .float .f64 q.x.f, .string q.x.s] 36 (0, 0))) := Mm.hid ((HB5.out.block _ (Mm.heapLt HX3.out)).trans HX3.out)
            have HQ0 : Hid (∀ w', Below w5.heap.size w5 w' → Mm.IIn w' p1 T1 ∧ Mm.IIn w' p2 L1 ∧ Mm.IIn w' p3 T1 ∧ Mm.IIn w' p4 L1 ∧ w'.heap[ga]? = some (.cells #[.slice p3 n1 c3, .slice p4 n2 c4] 48 (0, 0))) := Mm.hid (fun w' hb =>
              ⟨(HIa0.out.below HB5.out).below hb, (HIb0.out.below HB5.out).below hb, HIc0.out.below hb, HId0.out.below hb, (hb.block _ (Mm.heapLt HG5.out)).trans HG5.out⟩)
            have HZga := Mm.hid hga
            clear I3 I4 hT HRI0 HIa0 HIb0 HIc0 HId0 hga y2 y3 y4 y5

            have HFI1 := Mm.hid (irange_any (Mm.hid HJ5.out.iq) HK9.out q.v q.x (HM.out.below HJ5.out.j.bel) (Ix.fitIn HF.out.1) (Ix.fitIn HF.out.2))
            have y2 : w5.cell? ⟨gs, 2, none⟩ = some (.int .i64 q.v.k) := Mm.cellOf HX5.out rfl
            have y3 : w5.cell? ⟨gs, 3, none⟩ = some (.int .i64 q.v.n) := Mm.cellOf HX5.out rfl
            have y4 : w5.cell? ⟨gs, 4, none⟩ = some (.float .f64 q.v.f) := Mm.cellOf HX5.out rfl
            have y5 : w5.cell? ⟨gs, 5, none⟩ = some (.string q.v.s) := Mm.cellOf HX5.out rfl
            have y6 : w5.cell? ⟨gs, 6, none⟩ = some (.int .i64 q.x.k) := Mm.cellOf HX5.out rfl
            have y7 : w5.cell? ⟨gs, 7, none⟩ = some (.int .i64 q.x.n) := Mm.cellOf HX5.out rfl
            have y8 : w5.cell? ⟨gs, 8, none⟩ = some (.float .f64 q.x.f) := Mm.cellOf HX5.out rfl
            have y9 : w5.cell? ⟨gs, 9, none⟩ = some (.string q.x.s) := Mm.cellOf HX5.out rfl
            go_wp2_with fail
            refine HFI1.out.mono ?_
            rintro e w6 ⟨v1, v2, rfl, hT⟩
            obtain ⟨p5, c5, p6, c6, e1, e2, I1, I2⟩ := hT.sh
            obtain ⟨T2, hT2⟩ : ∃ z, z = (Ix.rangeT s q.v q.x).map (fun n : Nat => (n : Int)) := ⟨_, rfl⟩
            obtain ⟨L2, hL2⟩ : ∃ z, z = (Ix.rangeL s q.v q.x).map (fun n : Nat => (n : Int)) := ⟨_, rfl⟩
            rw [← hT2] at e1 I1
            rw [← hL2] at e2 I2
            obtain ⟨n5, hn5⟩ : ∃ z, z = T2.length := ⟨_, rfl⟩
            obtain ⟨n6, hn6⟩ : ∃ z, z = L2.length := ⟨_, rfl⟩
            rw [← hn5] at e1
            rw [← hn6] at e2
            subst e1 e2
            have HT2 := Mm.hid hT2
            have HL2 := Mm.hid hL2
            have Hn5 := Mm.hid hn5
            have Hn6 := Mm.hid hn6
            have HIa1 : Hid (Mm.IIn w6 p5 T2) := Mm.hid I1
            have HIb1 : Hid (Mm.IIn w6 p6 L2) := Mm.hid I2
            have HB6 : Hid (Below w5.heap.size w5 w6) := Mm.hid hT.bel
            have HJ6 := Mm.hid (HJ5.out.below HB6.out)
            have HX6 : Hid (w6.heap[gs]? = some (.cells #[.int .i64 q.kd, .int .i64 q.tid, .int .i64 q.v.k, .int .i64 q.v.n, .float .f64 q.v.f, .string q.v.s, .int .i64 q.x.k, .int .i64 q.x.n, .float .f64 q.x.f, .string q.x.s] 36 (0, 0))) := Mm.hid ((HB6.out.block _ (Mm.heapLt HX5.out)).trans HX5.out)
            clear hT2 hL2 hn5 hn6 I1 I2 hT HFI1 y2 y3 y4 y5 y6 y7 y8 y9
            have HRI1 := Mm.hid (refRangeI_any (Mm.hid HJ6.out.rx) HSZ q.v q.x (HM.out.below HJ6.out.j.bel) (Ix.fitIn HF.out.1) (Ix.fitIn HF.out.2))
            have y2 : w6.cell? ⟨gs, 2, none⟩ = some (.int .i64 q.v.k) := Mm.cellOf HX6.out rfl
            have y3 : w6.cell? ⟨gs, 3, none⟩ = some (.int .i64 q.v.n) := Mm.cellOf HX6.out rfl
            have y4 : w6.cell? ⟨gs, 4, none⟩ = some (.float .f64 q.v.f) := Mm.cellOf HX6.out rfl
            have y5 : w6.cell? ⟨gs, 5, none⟩ = some (.string q.v.s) := Mm.cellOf HX6.out rfl
            have y6 : w6.cell? ⟨gs, 6, none⟩ = some (.int .i64 q.x.k) := Mm.cellOf HX6.out rfl
            have y7 : w6.cell? ⟨gs, 7, none⟩ = some (.int .i64 q.x.n) := Mm.cellOf HX6.out rfl
            have y8 : w6.cell? ⟨gs, 8, none⟩ = some (.float .f64 q.x.f) := Mm.cellOf HX6.out rfl
            have y9 : w6.cell? ⟨gs, 9, none⟩ = some (.string q.x.s) := Mm.cellOf HX6.out rfl
            go_wp2_with fail
            refine HRI1.out.mono ?_
            rintro e w7 ⟨p7, n7, c7, p8, n8, c8, rfl, hT⟩
            obtain ⟨⟨e3, I3⟩, ⟨e4, I4⟩⟩ := hT.ln
            rw [← HT2.out] at e3 I3
            rw [← HL2.out] at e4 I4
            rw [← Hn5.out] at e3
            rw [← Hn6.out] at e4
            have e3' := e3.symm
            have e4' := e4.symm
            clear e3 e4
            subst e3' e4'
            obtain ⟨gb, hgb⟩ : ∃ y, y = w7.heap.size := ⟨_, rfl⟩
            obtain ⟨w8, hw8⟩ : ∃ y, w7.alloc (.cells #[.slice p7 n5 c7, .slice p8 n6 c8] 48) = y := ⟨_, rfl⟩
            have HB8 : Hid (Below w6.heap.size w6 w8) := Mm.hid (by rw [← hw8]; exact hT.bel.alloc hT.bel.size _)
            have HG8 : Hid (w8.heap[gb]? = some (.cells #[.slice p7 n5 c7, .slice p8 n6 c8] 48 (0, 0))) := Mm.hid (by rw [← hw8]; exact Mm.newAt _ _ hgb)
            have HIc1 : Hid (Mm.IIn w8 p7 T2) := Mm.hid (by rw [← hw8]; exact I3.below ((Below.refl _ _).alloc (Nat.le_refl _) _))
            have HId1 : Hid (Mm.IIn w8 p8 L2) := Mm.hid (by rw [← hw8]; exact I4.below ((Below.refl _ _).alloc (Nat.le_refl _) _))
            have HJ8 := Mm.hid (HJ6.out.below HB8.out)
            have HX8 : Hid (w8.heap[gs]? = some (.cells #[.int .i64 q.kd, .int .i64 q.tid, .int .i64 q.v.k, .int .i64 q.v.n, .float .f64 q.v.f, .string q.v.s, .int .i64 q.x.k, .int .i64 q.x.n, .float .f64 q.x.f, .string q.x.s] 36 (0, 0))) := Mm.hid ((HB8.out.block _ (Mm.heapLt HX6.out)).trans HX6.out)
            have HQ1 : Hid (∀ w', Below w8.heap.size w8 w' → Mm.IIn w' p5 T2 ∧ Mm.IIn w' p6 L2 ∧ Mm.IIn w' p7 T2 ∧ Mm.IIn w' p8 L2 ∧ w'.heap[gb]? = some (.cells #[.slice p7 n5 c7, .slice p8 n6 c8] 48 (0, 0))) := Mm.hid (fun w' hb =>
              ⟨(HIa1.out.below HB8.out).below hb, (HIb1.out.below HB8.out).below hb, HIc1.out.below hb, HId1.out.below hb, (hb.block _ (Mm.heapLt HG8.out)).trans HG8.out⟩)
            have HZgb := Mm.hid hgb
            clear I3 I4 hT HRI1 HIa1 HIb1 HIc1 HId1 hgb y2 y3 y4 y5 y6 y7 y8 y9

            have HLN1 : Hid (T1.length ≤ 1000000 ∧ L1.length ≤ 1000000 ∧ T2.length ≤ 1000000 ∧ L2.length ≤ 1000000) := Mm.hid (by rw [HT1.out, HL1.out, HT2.out, HL2.out]; exact HLN.out)
            have HV : Hid (∀ w', Below w8.heap.size w8 w' → Ix.Jx W w' tag pb p s (k + 1) B0 qb pr r cr kf s) := Mm.hid (fun w' hb => HJ8.out.below hb)
            have HB58 : Hid (Below w5.heap.size w5 w8) := Mm.hid (HB6.out.trans (HB8.out.mono HB6.out.size))
            have HU : Hid (∀ w', Below w8.heap.size w8 w' → (Mm.IIn w' p1 T1 ∧ Mm.IIn w' p2 L1 ∧ Mm.IIn w' p3 T1 ∧ Mm.IIn w' p4 L1 ∧ w'.heap[ga]? = some (.cells #[.slice p3 n1 c3, .slice p4 n2 c4] 48 (0, 0))) ∧ Mm.IIn w' p5 T2 ∧ Mm.IIn w' p6 L2 ∧ Mm.IIn w' p7 T2 ∧ Mm.IIn w' p8 L2 ∧ w'.heap[gb]? = some (.cells #[.slice p7 n5 c7, .slice p8 n6 c8] 48 (0, 0))) := Mm.hid (fun w' hb => ⟨HQ0.out _ (HB58.out.trans (hb.mono HB58.out.size)), HQ1.out _ hb⟩)
            have HSK : Hid (∀ w', Below w8.heap.size w8 w' → w'.cell? ⟨gs, 1, none⟩ = some (.int .i64 q.tid) ∧ w'.cell? ⟨gs, 2, none⟩ = some (.int .i64 q.v.k) ∧ w'.cell? ⟨gs, 3, none⟩ = some (.int .i64 q.v.n) ∧ w'.cell? ⟨gs, 4, none⟩ = some (.float .f64 q.v.f) ∧ w'.cell? ⟨gs, 5, none⟩ = some (.string q.v.s) ∧ w'.cell? ⟨ga, 0, none⟩ = some (.slice p3 n1 c3) ∧ w'.cell? ⟨ga, 1, none⟩ = some (.slice p4 n2 c4) ∧ w'.cell? ⟨gb, 0, none⟩ = some (.slice p7 n5 c7) ∧ w'.cell? ⟨gb, 1, none⟩ = some (.slice p8 n6 c8) ∧ w'.cell? ⟨qb, 0, none⟩ = some (.pointer (some ⟨pr, 0, none⟩))) := Mm.hid (fun w' hb => by
              have hs := (hb.block gs (Mm.heapLt HX8.out)).trans HX8.out
              obtain ⟨⟨-, -, -, -, h1⟩, -, -, -, -, h2⟩ := HU.out w' hb
              exact ⟨Mm.cellOf hs rfl, Mm.cellOf hs rfl, Mm.cellOf hs rfl, Mm.cellOf hs rfl, Mm.cellOf hs rfl, Mm.cellOf h1 rfl, Mm.cellOf h1 rfl, Mm.cellOf h2 rfl, Mm.cellOf h2 rfl, Mm.cellOf (HV.out w' hb).b2 rfl⟩)
            obtain ⟨b, hbb⟩ : ∃ b, b = Ix.hasE s q.v q.tid := ⟨_, rfl⟩
            obtain ⟨cnt, hcc⟩ : ∃ cnt, cnt = s.count := ⟨_, rfl⟩
            obtain ⟨A, hA⟩ : ∃ A, A = (Lf.nums s.pgs).map (fun n : Nat => (n : Int)) := ⟨_, rfl⟩
            obtain ⟨na, hna⟩ : ∃ na, na = A.length := ⟨_, rfl⟩
            have HNA := Mm.hid hna
            have HAE := Mm.hid hA
            have HCE := Mm.hid hcc
            have HBE := Mm.hid hbb
            have HAN : Hid (A.length ≤ 1000000) := Mm.hid (by rw [hA, List.length_map]; show (s.pgs.map _).length ≤ _; rw [List.length_map]; have := HSZ.out.n; omega)
            clear hbb hcc hA hna
            have HC1 : Hid (∀ w', Below w8.heap.size w8 w' → Calls Tryz.prog 19 #[.slice p1 n1 c1, .slice p3 n1 c3] w' fun e w'' => e = .returned (.bool true) ∧ Below w'.heap.size w' w'') := Mm.hid (fun w' hb => by
              have h0 := (HU.out w' hb).1
              have h := ints_gen T1 T1 p1 p3 n1 n1 c1 c3 w' (Mm.hid h0.1) (Mm.hid h0.2.2.1) Hn1 Hn1 HLN1.out.1
              rw [decide_eq_true rfl] at h
              exact h)
            have HC2 : Hid (∀ w', Below w8.heap.size w8 w' → Calls Tryz.prog 19 #[.slice p2 n2 c2, .slice p4 n2 c4] w' fun e w'' => e = .returned (.bool true) ∧ Below w'.heap.size w' w'') := Mm.hid (fun w' hb => by
              have h0 := (HU.out w' hb).1
              have h := ints_gen L1 L1 p2 p4 n2 n2 c2 c4 w' (Mm.hid h0.2.1) (Mm.hid h0.2.2.2.1) Hn2 Hn2 HLN1.out.2.1
              rw [decide_eq_true rfl] at h
              exact h)
            have HC3 : Hid (∀ w', Below w8.heap.size w8 w' → Calls Tryz.prog 19 #[.slice p5 n5 c5, .slice p7 n5 c7] w' fun e w'' => e = .returned (.bool true) ∧ Below w'.heap.size w' w'') := Mm.hid (fun w' hb => by
              have h0 := (HU.out w' hb).2
              have h := ints_gen T2 T2 p5 p7 n5 n5 c5 c7 w' (Mm.hid h0.1) (Mm.hid h0.2.2.1) Hn5 Hn5 HLN1.out.2.2.1
              rw [decide_eq_true rfl] at h
              exact h)
            have HC4 : Hid (∀ w', Below w8.heap.size w8 w' → Calls Tryz.prog 19 #[.slice p6 n6 c6, .slice p8 n6 c8] w' fun e w'' => e = .returned (.bool true) ∧ Below w'.heap.size w' w'') := Mm.hid (fun w' hb => by
              have h0 := (HU.out w' hb).2
              have h := ints_gen L2 L2 p6 p8 n6 n6 c6 c8 w' (Mm.hid h0.2.1) (Mm.hid h0.2.2.2.1) Hn6 Hn6 HLN1.out.2.2.2
              rw [decide_eq_true rfl] at h
              exact h)
            have HC5 : Hid (∀ w', Below w8.heap.size w8 w' → Calls Tryz.prog 20 #[.pointer (some ⟨pb, 0, none⟩), .agg #[.int .i64 q.v.k, .int .i64 q.v.n, .float .f64 q.v.f, .string q.v.s], .int .i64 q.tid] w' fun e w'' => e = .returned (.bool b) ∧ Below w'.heap.size w' w'') := Mm.hid (fun w' hb => by
              have h := ihas_any (Mm.hid (HV.out w' hb).iq) HK9.out q.v q.tid (HM.out.below (HV.out w' hb).j.bel) (Ix.fitIn HF.out.1)
              rw [← HBE.out] at h
              exact h)
            have HC6 : Hid (∀ w', Below w8.heap.size w8 w' → Calls Tryz.prog 21 #[.pointer (some ⟨qb, 0, none⟩), .agg #[.int .i64 q.v.k, .int .i64 q.v.n, .float .f64 q.v.f, .string q.v.s], .int .i64 q.tid] w' fun e w'' => e = .returned (.bool b) ∧ Below w'.heap.size w' w'') := Mm.hid (fun w' hb => by
              have h := refHasI_any (Mm.hid (HV.out w' hb).rx) HSZ q.v q.tid (HM.out.below (HV.out w' hb).j.bel) (Ix.fitIn HF.out.1)
              rw [← HBE.out] at h
              exact h)
            have HC7 : Hid (∀ w', Below w8.heap.size w8 w' → Calls Tryz.prog 22 #[.pointer (some ⟨pb, 0, none⟩)] w' fun e w'' => e = .returned (.int .i64 (cnt : Int)) ∧ Below w'.heap.size w' w'') := Mm.hid (fun w' hb => by
              have h := ilen_any (Mm.hid (HV.out w' hb).iq)
              rw [← HCE.out] at h
              exact h)
            have HC8 : Hid (∀ w', Below w8.heap.size w8 w' → Calls Tryz.prog 23 #[.pointer (some ⟨pr, 0, none⟩)] w' fun e w'' => e = .returned (.int .i64 (cnt : Int)) ∧ Below w'.heap.size w' w'') := Mm.hid (fun w' hb => by
              refine (refLen_any (Mm.hid (HV.out w' hb).j.m.rd) HSZ.out.n HSZ.out.f).mono ?_
              rintro e w'' ⟨rfl, rfl⟩
              exact ⟨by rw [Lf.flat_cnt HSZ.out.i, HCE.out], Below.refl _ _⟩)
            have HC9 : Hid (∀ w', Below w8.heap.size w8 w' → Calls Tryz.prog 24 #[.pointer (some ⟨pb, 0, none⟩)] w' fun e w'' => (∃ q c, e = .returned (.slice q na c) ∧ Hid (Mm.IIn w'' q A)) ∧ Below w'.heap.size w' w'') := Mm.hid (fun w' hb => by
              refine (ileaves_any (Mm.hid (HV.out w' hb).iq) HK9.out).mono ?_
              rintro e w'' ⟨v, rfl, ho, hb⟩
              obtain ⟨q, c, e, hi⟩ := ho.nin
              rw [← HAE.out] at e hi
              rw [← HNA.out] at e
              exact ⟨⟨q, c, by rw [e], Mm.hid hi⟩, hb⟩)
            have HC10 : Hid (∀ w', Below w8.heap.size w8 w' → Calls Tryz.prog 25 #[.pointer (some ⟨pr, 0, none⟩)] w' fun e w'' => (∃ q c, e = .returned (.slice q na c) ∧ Hid (Mm.IIn w'' q A)) ∧ Below w'.heap.size w' w'') := Mm.hid (fun w' hb => by
              refine (refAll_any (Mm.hid (HV.out w' hb).j.m.rd) HSZ.out.n).mono ?_
              rintro e w'' ⟨v, rfl, ho, hb⟩
              obtain ⟨q, c, e, hi⟩ := ho.nin
              rw [← HAE.out] at e hi
              rw [← HNA.out] at e
              exact ⟨⟨q, c, by rw [e], Mm.hid hi⟩, hb⟩)
            have gB : (b == b) = true := by cases b <;> rfl
            clear HJ2 HX2 HB3 HJ3 HX3 HB5 HG5 HJ5 HX5 HQ0 HB6 HJ6 HX6 HB8 HG8 HQ1 HT1 HL1 HT2 HL2 HLN HCZ HB58 HU
            go_upto_region 25 with fail
            rw [← HZga.out, ← HZgb.out]

            go_cut [236] from 175 to 236 (fun vt wx => vt = .bool false ∧ Hid (Below w8.heap.size w8 wx))
            case first =>
              clear hw8 hw5 HX8 HJ8
              have HB0 : Hid (Below w8.heap.size w8 w8.drew) := Mm.hid (Below.refl _ w8).drew
              refine wp_region_held_drew (S := fun w' => w'.cell? ⟨gs, 1, none⟩ = some (.int .i64 q.tid) ∧ w'.cell? ⟨gs, 2, none⟩ = some (.int .i64 q.v.k) ∧ w'.cell? ⟨gs, 3, none⟩ = some (.int .i64 q.v.n) ∧ w'.cell? ⟨gs, 4, none⟩ = some (.float .f64 q.v.f) ∧ w'.cell? ⟨gs, 5, none⟩ = some (.string q.v.s) ∧ w'.cell? ⟨ga, 0, none⟩ = some (.slice p3 n1 c3) ∧ w'.cell? ⟨ga, 1, none⟩ = some (.slice p4 n2 c4) ∧ w'.cell? ⟨gb, 0, none⟩ = some (.slice p7 n5 c7) ∧ w'.cell? ⟨gb, 1, none⟩ = some (.slice p8 n6 c8) ∧ w'.cell? ⟨qb, 0, none⟩ = some (.pointer (some ⟨pr, 0, none⟩))) (by kernel_rfl) (HSK.out _ HB0.out) (fun hH => ?_)
              refine wpAnyH_take (i := 0) (oi := ?oz0) (v := ?vz0) ?hiz0 ?hsz0 ?hfz0 ?hrz0 ?hQz0 (Or.inl ⟨?hwz0, ?hyz0⟩) ?hSz0 ?restz0
              case hiz0 => (simp; rfl)
              case hsz0 => kernel_rfl
              case hfz0 => kernel_rfl
              case hrz0 => kernel_rfl
              case hQz0 => exact fun _ _ _ h => h
              case hwz0 => rfl
              case hyz0 => (intro wq hSq; (try dsimp only at hSq); go_simp; (try with_reducible rfl))
              case hSz0 => assumption
              simp only [Act.put, List.setIfInBounds_toArray, List.set_cons_zero, List.set_cons_succ]
              refine wpAnyH_take (i := 1) (oi := ?oz1) (v := ?vz1) ?hiz1 ?hsz1 ?hfz1 ?hrz1 ?hQz1 (Or.inl ⟨?hwz1, ?hyz1⟩) ?hSz1 ?restz1
              case hiz1 => (simp; rfl)
              case hsz1 => kernel_rfl
              case hfz1 => kernel_rfl
              case hrz1 => kernel_rfl
              case hQz1 => exact fun _ _ _ h => h
              case hwz1 => rfl
              case hyz1 => (intro wq hSq; (try dsimp only at hSq); go_simp; (try with_reducible rfl))
              case hSz1 => assumption
              simp only [Act.put, List.setIfInBounds_toArray, List.set_cons_zero, List.set_cons_succ]
              refine wpAnyH_take (i := 2) (oi := ?oz2) (v := ?vz2) ?hiz2 ?hsz2 ?hfz2 ?hrz2 ?hQz2 (Or.inl ⟨?hwz2, ?hyz2⟩) ?hSz2 ?restz2
              case hiz2 => (simp; rfl)
              case hsz2 => kernel_rfl
              case hfz2 => kernel_rfl
              case hrz2 => kernel_rfl
              case hQz2 => exact fun _ _ _ h => h
              case hwz2 => rfl
              case hyz2 => (intro wq hSq; (try dsimp only at hSq); go_simp; (try with_reducible rfl))
              case hSz2 => assumption
              simp only [Act.put, List.setIfInBounds_toArray, List.set_cons_zero, List.set_cons_succ]
              refine wpAnyH_ready (rs := [3]) (by kernel_rfl) (by simp) ?_
              refine AllReadyH.cons (o := ?oz3) ?hiz3 (fun K hK => ?_) AllReadyH.nil
              case hiz3 => (simp; rfl)
              go_simp
              with_reducible refine (HC1.out _ HB0.out).mono ?_
              rintro e w9 ⟨rfl, hb⟩
              have HBr9 : Hid (Below w8.heap.size w8 w9) := Mm.hid (HB0.out.trans (hb.mono HB0.out.size))
              clear hb
              go_wp2_with fail
              refine hK.out _ _ (HSK.out _ HBr9.out) (fun hHz3 => ?_)
              clear hK K
              refine wpAnyH_take (i := 4) (oi := ?oz4) (v := ?vz4) ?hiz4 ?hsz4 ?hfz4 ?hrz4 ?hQz4 (Or.inl ⟨?hwz4, ?hyz4⟩) ?hSz4 ?restz4
              case hiz4 => (simp; rfl)
              case hsz4 => kernel_rfl
              case hfz4 => kernel_rfl
              case hrz4 => kernel_rfl
              case hQz4 => exact fun _ _ _ h => h
              case hwz4 => rfl
              case hyz4 => (intro wq hSq; (try dsimp only at hSq); go_simp; (try with_reducible rfl))
              case hSz4 => assumption
              simp only [Act.put, List.setIfInBounds_toArray, List.set_cons_zero, List.set_cons_succ]
              refine wpAnyH_take (i := 5) (oi := ?oz5) (v := ?vz5) ?hiz5 ?hsz5 ?hfz5 ?hrz5 ?hQz5 (Or.inl ⟨?hwz5, ?hyz5⟩) ?hSz5 ?restz5
              case hiz5 => (simp; rfl)
              case hsz5 => kernel_rfl
              case hfz5 => kernel_rfl
              case hrz5 => kernel_rfl
              case hQz5 => exact fun _ _ _ h => h
              case hwz5 => rfl
              case hyz5 => (intro wq hSq; (try dsimp only at hSq); go_simp; (try with_reducible rfl))
              case hSz5 => assumption
              simp only [Act.put, List.setIfInBounds_toArray, List.set_cons_zero, List.set_cons_succ]
              refine wpAnyH_take (i := 6) (oi := ?oz6) (v := ?vz6) ?hiz6 ?hsz6 ?hfz6 ?hrz6 ?hQz6 (Or.inl ⟨?hwz6, ?hyz6⟩) ?hSz6 ?restz6
              case hiz6 => (simp; rfl)
              case hsz6 => kernel_rfl
              case hfz6 => kernel_rfl
              case hrz6 => kernel_rfl
              case hQz6 => exact fun _ _ _ h => h
              case hwz6 => rfl
              case hyz6 => (intro wq hSq; (try dsimp only at hSq); go_simp; (try with_reducible rfl))
              case hSz6 => assumption
              simp only [Act.put, List.setIfInBounds_toArray, List.set_cons_zero, List.set_cons_succ]
              refine wpAnyH_take (i := 7) (oi := ?oz7) (v := ?vz7) ?hiz7 ?hsz7 ?hfz7 ?hrz7 ?hQz7 (Or.inl ⟨?hwz7, ?hyz7⟩) ?hSz7 ?restz7
              case hiz7 => (simp; rfl)
              case hsz7 => kernel_rfl
              case hfz7 => kernel_rfl
              case hrz7 => kernel_rfl
              case hQz7 => exact fun _ _ _ h => h
              case hwz7 => rfl
              case hyz7 => (intro wq hSq; (try dsimp only at hSq); go_simp; (try with_reducible rfl))
              case hSz7 => assumption
              simp only [Act.put, List.setIfInBounds_toArray, List.set_cons_zero, List.set_cons_succ]
              refine wpAnyH_take (i := 8) (oi := ?oz8) (v := ?vz8) ?hiz8 ?hsz8 ?hfz8 ?hrz8 ?hQz8 (Or.inl ⟨?hwz8, ?hyz8⟩) ?hSz8 ?restz8
              case hiz8 => (simp; rfl)
              case hsz8 => kernel_rfl
              case hfz8 => kernel_rfl
              case hrz8 => kernel_rfl
              case hQz8 => exact fun _ _ _ h => h
              case hwz8 => rfl
              case hyz8 => (intro wq hSq; (try dsimp only at hSq); go_simp; (try with_reducible rfl))
              case hSz8 => assumption
              simp only [Act.put, List.setIfInBounds_toArray, List.set_cons_zero, List.set_cons_succ]
              refine wpAnyH_ready (rs := [9]) (by kernel_rfl) (by simp) ?_
              refine AllReadyH.cons (o := ?oz9) ?hiz9 (fun K hK => ?_) AllReadyH.nil
              case hiz9 => (simp; rfl)
              go_simp
              with_reducible refine (HC2.out _ HBr9.out).mono ?_
              rintro e w10 ⟨rfl, hb⟩
              have HBr10 : Hid (Below w8.heap.size w8 w10) := Mm.hid (HBr9.out.trans (hb.mono HBr9.out.size))
              clear hb
              go_wp2_with fail
              refine hK.out _ _ (HSK.out _ HBr10.out) (fun hHz9 => ?_)
              clear hK K
              refine wpAnyH_take (i := 10) (oi := ?oz10) (v := ?vz10) ?hiz10 ?hsz10 ?hfz10 ?hrz10 ?hQz10 (Or.inl ⟨?hwz10, ?hyz10⟩) ?hSz10 ?restz10
              case hiz10 => (simp; rfl)
              case hsz10 => kernel_rfl
              case hfz10 => kernel_rfl
              case hrz10 => kernel_rfl
              case hQz10 => exact fun _ _ _ h => h
              case hwz10 => rfl
              case hyz10 => (intro wq hSq; (try dsimp only at hSq); go_simp; (try with_reducible rfl))
              case hSz10 => assumption
              simp only [Act.put, List.setIfInBounds_toArray, List.set_cons_zero, List.set_cons_succ]
              refine wpAnyH_take (i := 11) (oi := ?oz11) (v := ?vz11) ?hiz11 ?hsz11 ?hfz11 ?hrz11 ?hQz11 (Or.inl ⟨?hwz11, ?hyz11⟩) ?hSz11 ?restz11
              case hiz11 => (simp; rfl)
              case hsz11 => kernel_rfl
              case hfz11 => kernel_rfl
              case hrz11 => kernel_rfl
              case hQz11 => exact fun _ _ _ h => h
              case hwz11 => rfl
              case hyz11 => (intro wq hSq; (try dsimp only at hSq); go_simp; (try with_reducible rfl))
              case hSz11 => assumption
              simp only [Act.put, List.setIfInBounds_toArray, List.set_cons_zero, List.set_cons_succ]
              refine wpAnyH_take (i := 12) (oi := ?oz12) (v := ?vz12) ?hiz12 ?hsz12 ?hfz12 ?hrz12 ?hQz12 (Or.inl ⟨?hwz12, ?hyz12⟩) ?hSz12 ?restz12
              case hiz12 => (simp; rfl)
              case hsz12 => kernel_rfl
              case hfz12 => kernel_rfl
              case hrz12 => kernel_rfl
              case hQz12 => exact fun _ _ _ h => h
              case hwz12 => rfl
              case hyz12 => (intro wq hSq; (try dsimp only at hSq); go_simp; (try with_reducible rfl))
              case hSz12 => assumption
              simp only [Act.put, List.setIfInBounds_toArray, List.set_cons_zero, List.set_cons_succ]
              refine wpAnyH_take (i := 13) (oi := ?oz13) (v := ?vz13) ?hiz13 ?hsz13 ?hfz13 ?hrz13 ?hQz13 (Or.inl ⟨?hwz13, ?hyz13⟩) ?hSz13 ?restz13
              case hiz13 => (simp; rfl)
              case hsz13 => kernel_rfl
              case hfz13 => kernel_rfl
              case hrz13 => kernel_rfl
              case hQz13 => exact fun _ _ _ h => h
              case hwz13 => rfl
              case hyz13 => (intro wq hSq; (try dsimp only at hSq); go_simp; (try with_reducible rfl))
              case hSz13 => assumption
              simp only [Act.put, List.setIfInBounds_toArray, List.set_cons_zero, List.set_cons_succ]
              refine wpAnyH_take (i := 14) (oi := ?oz14) (v := ?vz14) ?hiz14 ?hsz14 ?hfz14 ?hrz14 ?hQz14 (Or.inl ⟨?hwz14, ?hyz14⟩) ?hSz14 ?restz14
              case hiz14 => (simp; rfl)
              case hsz14 => kernel_rfl
              case hfz14 => kernel_rfl
              case hrz14 => kernel_rfl
              case hQz14 => exact fun _ _ _ h => h
              case hwz14 => rfl
              case hyz14 => (intro wq hSq; (try dsimp only at hSq); go_simp; (try with_reducible rfl))
              case hSz14 => assumption
              simp only [Act.put, List.setIfInBounds_toArray, List.set_cons_zero, List.set_cons_succ]
              refine wpAnyH_take (i := 15) (oi := ?oz15) (v := ?vz15) ?hiz15 ?hsz15 ?hfz15 ?hrz15 ?hQz15 (Or.inl ⟨?hwz15, ?hyz15⟩) ?hSz15 ?restz15
              case hiz15 => (simp; rfl)
              case hsz15 => kernel_rfl
              case hfz15 => kernel_rfl
              case hrz15 => kernel_rfl
              case hQz15 => exact fun _ _ _ h => h
              case hwz15 => rfl
              case hyz15 => (intro wq hSq; (try dsimp only at hSq); go_simp; (try with_reducible rfl))
              case hSz15 => assumption
              simp only [Act.put, List.setIfInBounds_toArray, List.set_cons_zero, List.set_cons_succ]
              refine wpAnyH_ready (rs := [16]) (by kernel_rfl) (by simp) ?_
              refine AllReadyH.cons (o := ?oz16) ?hiz16 (fun K hK => ?_) AllReadyH.nil
              case hiz16 => (simp; rfl)
              go_simp
              with_reducible refine (HC3.out _ HBr10.out).mono ?_
              rintro e w11 ⟨rfl, hb⟩
              have HBr11 : Hid (Below w8.heap.size w8 w11) := Mm.hid (HBr10.out.trans (hb.mono HBr10.out.size))
              clear hb
              go_wp2_with fail
              refine hK.out _ _ (HSK.out _ HBr11.out) (fun hHz16 => ?_)
              clear hK K
              refine wpAnyH_take (i := 17) (oi := ?oz17) (v := ?vz17) ?hiz17 ?hsz17 ?hfz17 ?hrz17 ?hQz17 (Or.inl ⟨?hwz17, ?hyz17⟩) ?hSz17 ?restz17
              case hiz17 => (simp; rfl)
              case hsz17 => kernel_rfl
              case hfz17 => kernel_rfl
              case hrz17 => kernel_rfl
              case hQz17 => exact fun _ _ _ h => h
              case hwz17 => rfl
              case hyz17 => (intro wq hSq; (try dsimp only at hSq); go_simp; (try with_reducible rfl))
              case hSz17 => assumption
              simp only [Act.put, List.setIfInBounds_toArray, List.set_cons_zero, List.set_cons_succ]
              refine wpAnyH_take (i := 18) (oi := ?oz18) (v := ?vz18) ?hiz18 ?hsz18 ?hfz18 ?hrz18 ?hQz18 (Or.inl ⟨?hwz18, ?hyz18⟩) ?hSz18 ?restz18
              case hiz18 => (simp; rfl)
              case hsz18 => kernel_rfl
              case hfz18 => kernel_rfl
              case hrz18 => kernel_rfl
              case hQz18 => exact fun _ _ _ h => h
              case hwz18 => rfl
              case hyz18 => (intro wq hSq; (try dsimp only at hSq); go_simp; (try with_reducible rfl))
              case hSz18 => assumption
              simp only [Act.put, List.setIfInBounds_toArray, List.set_cons_zero, List.set_cons_succ]
              refine wpAnyH_take (i := 19) (oi := ?oz19) (v := ?vz19) ?hiz19 ?hsz19 ?hfz19 ?hrz19 ?hQz19 (Or.inl ⟨?hwz19, ?hyz19⟩) ?hSz19 ?restz19
              case hiz19 => (simp; rfl)
              case hsz19 => kernel_rfl
              case hfz19 => kernel_rfl
              case hrz19 => kernel_rfl
              case hQz19 => exact fun _ _ _ h => h
              case hwz19 => rfl
              case hyz19 => (intro wq hSq; (try dsimp only at hSq); go_simp; (try with_reducible rfl))
              case hSz19 => assumption
              simp only [Act.put, List.setIfInBounds_toArray, List.set_cons_zero, List.set_cons_succ]
              refine wpAnyH_take (i := 20) (oi := ?oz20) (v := ?vz20) ?hiz20 ?hsz20 ?hfz20 ?hrz20 ?hQz20 (Or.inl ⟨?hwz20, ?hyz20⟩) ?hSz20 ?restz20
              case hiz20 => (simp; rfl)
              case hsz20 => kernel_rfl
              case hfz20 => kernel_rfl
              case hrz20 => kernel_rfl
              case hQz20 => exact fun _ _ _ h => h
              case hwz20 => rfl
              case hyz20 => (intro wq hSq; (try dsimp only at hSq); go_simp; (try with_reducible rfl))
              case hSz20 => assumption
              simp only [Act.put, List.setIfInBounds_toArray, List.set_cons_zero, List.set_cons_succ]
              refine wpAnyH_take (i := 21) (oi := ?oz21) (v := ?vz21) ?hiz21 ?hsz21 ?hfz21 ?hrz21 ?hQz21 (Or.inl ⟨?hwz21, ?hyz21⟩) ?hSz21 ?restz21
              case hiz21 => (simp; rfl)
              case hsz21 => kernel_rfl
              case hfz21 => kernel_rfl
              case hrz21 => kernel_rfl
              case hQz21 => exact fun _ _ _ h => h
              case hwz21 => rfl
              case hyz21 => (intro wq hSq; (try dsimp only at hSq); go_simp; (try with_reducible rfl))
              case hSz21 => assumption
              simp only [Act.put, List.setIfInBounds_toArray, List.set_cons_zero, List.set_cons_succ]
              refine wpAnyH_take (i := 22) (oi := ?oz22) (v := ?vz22) ?hiz22 ?hsz22 ?hfz22 ?hrz22 ?hQz22 (Or.inl ⟨?hwz22, ?hyz22⟩) ?hSz22 ?restz22
              case hiz22 => (simp; rfl)
              case hsz22 => kernel_rfl
              case hfz22 => kernel_rfl
              case hrz22 => kernel_rfl
              case hQz22 => exact fun _ _ _ h => h
              case hwz22 => rfl
              case hyz22 => (intro wq hSq; (try dsimp only at hSq); go_simp; (try with_reducible rfl))
              case hSz22 => assumption
              simp only [Act.put, List.setIfInBounds_toArray, List.set_cons_zero, List.set_cons_succ]
              refine wpAnyH_ready (rs := [23]) (by kernel_rfl) (by simp) ?_
              refine AllReadyH.cons (o := ?oz23) ?hiz23 (fun K hK => ?_) AllReadyH.nil
              case hiz23 => (simp; rfl)
              go_simp
              with_reducible refine (HC4.out _ HBr11.out).mono ?_
              rintro e w12 ⟨rfl, hb⟩
              have HBr12 : Hid (Below w8.heap.size w8 w12) := Mm.hid (HBr11.out.trans (hb.mono HBr11.out.size))
              clear hb
              go_wp2_with fail
              refine hK.out _ _ (HSK.out _ HBr12.out) (fun hHz23 => ?_)
              clear hK K
              refine wpAnyH_take (i := 24) (oi := ?oz24) (v := ?vz24) ?hiz24 ?hsz24 ?hfz24 ?hrz24 ?hQz24 (Or.inl ⟨?hwz24, ?hyz24⟩) ?hSz24 ?restz24
              case hiz24 => (simp; rfl)
              case hsz24 => kernel_rfl
              case hfz24 => kernel_rfl
              case hrz24 => kernel_rfl
              case hQz24 => exact fun _ _ _ h => h
              case hwz24 => rfl
              case hyz24 => (intro wq hSq; (try dsimp only at hSq); go_simp; (try with_reducible rfl))
              case hSz24 => assumption
              simp only [Act.put, List.setIfInBounds_toArray, List.set_cons_zero, List.set_cons_succ]
              refine wpAnyH_take (i := 25) (oi := ?oz25) (v := ?vz25) ?hiz25 ?hsz25 ?hfz25 ?hrz25 ?hQz25 (Or.inl ⟨?hwz25, ?hyz25⟩) ?hSz25 ?restz25
              case hiz25 => (simp; rfl)
              case hsz25 => kernel_rfl
              case hfz25 => kernel_rfl
              case hrz25 => kernel_rfl
              case hQz25 => exact fun _ _ _ h => h
              case hwz25 => rfl
              case hyz25 => (intro wq hSq; (try dsimp only at hSq); go_simp; (try with_reducible rfl))
              case hSz25 => assumption
              simp only [Act.put, List.setIfInBounds_toArray, List.set_cons_zero, List.set_cons_succ]
              refine wpAnyH_take (i := 26) (oi := ?oz26) (v := ?vz26) ?hiz26 ?hsz26 ?hfz26 ?hrz26 ?hQz26 (Or.inl ⟨?hwz26, ?hyz26⟩) ?hSz26 ?restz26
              case hiz26 => (simp; rfl)
              case hsz26 => kernel_rfl
              case hfz26 => kernel_rfl
              case hrz26 => kernel_rfl
              case hQz26 => exact fun _ _ _ h => h
              case hwz26 => rfl
              case hyz26 => (intro wq hSq; (try dsimp only at hSq); go_simp; (try with_reducible rfl))
              case hSz26 => assumption
              simp only [Act.put, List.setIfInBounds_toArray, List.set_cons_zero, List.set_cons_succ]
              refine wpAnyH_take (i := 27) (oi := ?oz27) (v := ?vz27) ?hiz27 ?hsz27 ?hfz27 ?hrz27 ?hQz27 (Or.inl ⟨?hwz27, ?hyz27⟩) ?hSz27 ?restz27
              case hiz27 => (simp; rfl)
              case hsz27 => kernel_rfl
              case hfz27 => kernel_rfl
              case hrz27 => kernel_rfl
              case hQz27 => exact fun _ _ _ h => h
              case hwz27 => rfl
              case hyz27 => (intro wq hSq; (try dsimp only at hSq); go_simp; (try with_reducible rfl))
              case hSz27 => assumption
              simp only [Act.put, List.setIfInBounds_toArray, List.set_cons_zero, List.set_cons_succ]
              refine wpAnyH_take (i := 28) (oi := ?oz28) (v := ?vz28) ?hiz28 ?hsz28 ?hfz28 ?hrz28 ?hQz28 (Or.inl ⟨?hwz28, ?hyz28⟩) ?hSz28 ?restz28
              case hiz28 => (simp; rfl)
              case hsz28 => kernel_rfl
              case hfz28 => kernel_rfl
              case hrz28 => kernel_rfl
              case hQz28 => exact fun _ _ _ h => h
              case hwz28 => rfl
              case hyz28 => (intro wq hSq; (try dsimp only at hSq); go_simp; (try with_reducible rfl))
              case hSz28 => assumption
              simp only [Act.put, List.setIfInBounds_toArray, List.set_cons_zero, List.set_cons_succ]
              refine wpAnyH_take (i := 29) (oi := ?oz29) (v := ?vz29) ?hiz29 ?hsz29 ?hfz29 ?hrz29 ?hQz29 (Or.inl ⟨?hwz29, ?hyz29⟩) ?hSz29 ?restz29
              case hiz29 => (simp; rfl)
              case hsz29 => kernel_rfl
              case hfz29 => kernel_rfl
              case hrz29 => kernel_rfl
              case hQz29 => exact fun _ _ _ h => h
              case hwz29 => rfl
              case hyz29 => (intro wq hSq; (try dsimp only at hSq); go_simp; (try with_reducible rfl))
              case hSz29 => assumption
              simp only [Act.put, List.setIfInBounds_toArray, List.set_cons_zero, List.set_cons_succ]
              refine wpAnyH_take (i := 30) (oi := ?oz30) (v := ?vz30) ?hiz30 ?hsz30 ?hfz30 ?hrz30 ?hQz30 (Or.inl ⟨?hwz30, ?hyz30⟩) ?hSz30 ?restz30
              case hiz30 => (simp; rfl)
              case hsz30 => kernel_rfl
              case hfz30 => kernel_rfl
              case hrz30 => kernel_rfl
              case hQz30 => exact fun _ _ _ h => h
              case hwz30 => rfl
              case hyz30 => (intro wq hSq; (try dsimp only at hSq); go_simp; (try with_reducible rfl))
              case hSz30 => assumption
              simp only [Act.put, List.setIfInBounds_toArray, List.set_cons_zero, List.set_cons_succ]
              refine wpAnyH_take (i := 31) (oi := ?oz31) (v := ?vz31) ?hiz31 ?hsz31 ?hfz31 ?hrz31 ?hQz31 (Or.inl ⟨?hwz31, ?hyz31⟩) ?hSz31 ?restz31
              case hiz31 => (simp; rfl)
              case hsz31 => kernel_rfl
              case hfz31 => kernel_rfl
              case hrz31 => kernel_rfl
              case hQz31 => exact fun _ _ _ h => h
              case hwz31 => rfl
              case hyz31 => (intro wq hSq; (try dsimp only at hSq); go_simp; (try with_reducible rfl))
              case hSz31 => assumption
              simp only [Act.put, List.setIfInBounds_toArray, List.set_cons_zero, List.set_cons_succ]
              refine wpAnyH_take (i := 33) (oi := ?oz33) (v := ?vz33) ?hiz33 ?hsz33 ?hfz33 ?hrz33 ?hQz33 (Or.inl ⟨?hwz33, ?hyz33⟩) ?hSz33 ?restz33
              case hiz33 => (simp; rfl)
              case hsz33 => kernel_rfl
              case hfz33 => kernel_rfl
              case hrz33 => kernel_rfl
              case hQz33 => exact fun _ _ _ h => h
              case hwz33 => rfl
              case hyz33 => (intro wq hSq; (try dsimp only at hSq); go_simp; (try with_reducible rfl))
              case hSz33 => assumption
              simp only [Act.put, List.setIfInBounds_toArray, List.set_cons_zero, List.set_cons_succ]
              refine wpAnyH_take (i := 34) (oi := ?oz34) (v := ?vz34) ?hiz34 ?hsz34 ?hfz34 ?hrz34 ?hQz34 (Or.inl ⟨?hwz34, ?hyz34⟩) ?hSz34 ?restz34
              case hiz34 => (simp; rfl)
              case hsz34 => kernel_rfl
              case hfz34 => kernel_rfl
              case hrz34 => kernel_rfl
              case hQz34 => exact fun _ _ _ h => h
              case hwz34 => rfl
              case hyz34 => (intro wq hSq; (try dsimp only at hSq); go_simp; (try with_reducible rfl))
              case hSz34 => assumption
              simp only [Act.put, List.setIfInBounds_toArray, List.set_cons_zero, List.set_cons_succ]
              refine wpAnyH_take (i := 35) (oi := ?oz35) (v := ?vz35) ?hiz35 ?hsz35 ?hfz35 ?hrz35 ?hQz35 (Or.inl ⟨?hwz35, ?hyz35⟩) ?hSz35 ?restz35
              case hiz35 => (simp; rfl)
              case hsz35 => kernel_rfl
              case hfz35 => kernel_rfl
              case hrz35 => kernel_rfl
              case hQz35 => exact fun _ _ _ h => h
              case hwz35 => rfl
              case hyz35 => (intro wq hSq; (try dsimp only at hSq); go_simp; (try with_reducible rfl))
              case hSz35 => assumption
              simp only [Act.put, List.setIfInBounds_toArray, List.set_cons_zero, List.set_cons_succ]
              refine wpAnyH_take (i := 36) (oi := ?oz36) (v := ?vz36) ?hiz36 ?hsz36 ?hfz36 ?hrz36 ?hQz36 (Or.inl ⟨?hwz36, ?hyz36⟩) ?hSz36 ?restz36
              case hiz36 => (simp; rfl)
              case hsz36 => kernel_rfl
              case hfz36 => kernel_rfl
              case hrz36 => kernel_rfl
              case hQz36 => exact fun _ _ _ h => h
              case hwz36 => rfl
              case hyz36 => (intro wq hSq; (try dsimp only at hSq); go_simp; (try with_reducible rfl))
              case hSz36 => assumption
              simp only [Act.put, List.setIfInBounds_toArray, List.set_cons_zero, List.set_cons_succ]
              refine wpAnyH_take (i := 37) (oi := ?oz37) (v := ?vz37) ?hiz37 ?hsz37 ?hfz37 ?hrz37 ?hQz37 (Or.inl ⟨?hwz37, ?hyz37⟩) ?hSz37 ?restz37
              case hiz37 => (simp; rfl)
              case hsz37 => kernel_rfl
              case hfz37 => kernel_rfl
              case hrz37 => kernel_rfl
              case hQz37 => exact fun _ _ _ h => h
              case hwz37 => rfl
              case hyz37 => (intro wq hSq; (try dsimp only at hSq); go_simp; (try with_reducible rfl))
              case hSz37 => assumption
              simp only [Act.put, List.setIfInBounds_toArray, List.set_cons_zero, List.set_cons_succ]
              refine wpAnyH_ready (rs := [32]) (by kernel_rfl) (by simp) ?_
              refine AllReadyH.cons (o := ?oz32) ?hiz32 (fun K hK => ?_) AllReadyH.nil
              case hiz32 => (simp; rfl)
              go_simp
              with_reducible refine (HC5.out _ HBr12.out).mono ?_
              rintro e w13 ⟨rfl, hb⟩
              have HBr13 : Hid (Below w8.heap.size w8 w13) := Mm.hid (HBr12.out.trans (hb.mono HBr12.out.size))
              clear hb
              go_wp2_with fail
              refine hK.out _ _ (HSK.out _ HBr13.out) (fun hHz32 => ?_)
              clear hK K
              refine wpAnyH_ready (rs := [38]) (by kernel_rfl) (by simp) ?_
              refine AllReadyH.cons (o := ?oz38) ?hiz38 (fun K hK => ?_) AllReadyH.nil
              case hiz38 => (simp; rfl)
              go_simp
              with_reducible refine (HC6.out _ HBr13.out).mono ?_
              rintro e w14 ⟨rfl, hb⟩
              have HBr14 : Hid (Below w8.heap.size w8 w14) := Mm.hid (HBr13.out.trans (hb.mono HBr13.out.size))
              clear hb
              go_wp2_with fail
              refine hK.out _ _ (HSK.out _ HBr14.out) (fun hHz38 => ?_)
              clear hK K
              refine wpAnyH_take (i := 39) (oi := ?oz39) (v := ?vz39) ?hiz39 ?hsz39 ?hfz39 ?hrz39 ?hQz39 (Or.inl ⟨?hwz39, ?hyz39⟩) ?hSz39 ?restz39
              case hiz39 => (simp; rfl)
              case hsz39 => kernel_rfl
              case hfz39 => kernel_rfl
              case hrz39 => kernel_rfl
              case hQz39 => exact fun _ _ _ h => h
              case hwz39 => rfl
              case hyz39 => (intro wq hSq; (try dsimp only at hSq); go_simp; (try with_reducible rfl))
              case hSz39 => assumption
              simp only [Act.put, List.setIfInBounds_toArray, List.set_cons_zero, List.set_cons_succ]
              refine wpAnyH_take (i := 40) (oi := ?oz40) (v := ?vz40) ?hiz40 ?hsz40 ?hfz40 ?hrz40 ?hQz40 (Or.inl ⟨?hwz40, ?hyz40⟩) ?hSz40 ?restz40
              case hiz40 => (simp; rfl)
              case hsz40 => kernel_rfl
              case hfz40 => kernel_rfl
              case hrz40 => kernel_rfl
              case hQz40 => exact fun _ _ _ h => h
              case hwz40 => rfl
              case hyz40 => (intro wq hSq; (try dsimp only at hSq); go_simp; (try with_reducible rfl))
              case hSz40 => assumption
              simp only [Act.put, List.setIfInBounds_toArray, List.set_cons_zero, List.set_cons_succ]
              refine wpAnyH_take (i := 41) (oi := ?oz41) (v := ?vz41) ?hiz41 ?hsz41 ?hfz41 ?hrz41 ?hQz41 (Or.inl ⟨?hwz41, ?hyz41⟩) ?hSz41 ?restz41
              case hiz41 => (simp; rfl)
              case hsz41 => kernel_rfl
              case hfz41 => kernel_rfl
              case hrz41 => kernel_rfl
              case hQz41 => exact fun _ _ _ h => h
              case hwz41 => rfl
              case hyz41 => (intro wq hSq; (try dsimp only at hSq); go_simp; (try with_reducible rfl))
              case hSz41 => assumption
              simp only [Act.put, List.setIfInBounds_toArray, List.set_cons_zero, List.set_cons_succ]
              refine wpAnyH_take (i := 42) (oi := ?oz42) (v := ?vz42) ?hiz42 ?hsz42 ?hfz42 ?hrz42 ?hQz42 (Or.inl ⟨?hwz42, ?hyz42⟩) ?hSz42 ?restz42
              case hiz42 => (simp; rfl)
              case hsz42 => kernel_rfl
              case hfz42 => kernel_rfl
              case hrz42 => kernel_rfl
              case hQz42 => exact fun _ _ _ h => h
              case hwz42 => rfl
              case hyz42 => (intro wq hSq; (try dsimp only at hSq); go_simp; (try with_reducible rfl))
              case hSz42 => assumption
              simp only [Act.put, List.setIfInBounds_toArray, List.set_cons_zero, List.set_cons_succ]
              refine wpAnyH_take (i := 44) (oi := ?oz44) (v := ?vz44) ?hiz44 ?hsz44 ?hfz44 ?hrz44 ?hQz44 (Or.inl ⟨?hwz44, ?hyz44⟩) ?hSz44 ?restz44
              case hiz44 => (simp; rfl)
              case hsz44 => kernel_rfl
              case hfz44 => kernel_rfl
              case hrz44 => kernel_rfl
              case hQz44 => exact fun _ _ _ h => h
              case hwz44 => rfl
              case hyz44 => (intro wq hSq; (try dsimp only at hSq); go_simp; (try with_reducible rfl))
              case hSz44 => assumption
              simp only [Act.put, List.setIfInBounds_toArray, List.set_cons_zero, List.set_cons_succ]
              refine wpAnyH_take (i := 45) (oi := ?oz45) (v := ?vz45) ?hiz45 ?hsz45 ?hfz45 ?hrz45 ?hQz45 (Or.inl ⟨?hwz45, ?hyz45⟩) ?hSz45 ?restz45
              case hiz45 => (simp; rfl)
              case hsz45 => kernel_rfl
              case hfz45 => kernel_rfl
              case hrz45 => kernel_rfl
              case hQz45 => exact fun _ _ _ h => h
              case hwz45 => rfl
              case hyz45 => (intro wq hSq; (try dsimp only at hSq); go_simp; (try with_reducible rfl))
              case hSz45 => assumption
              simp only [Act.put, List.setIfInBounds_toArray, List.set_cons_zero, List.set_cons_succ]
              refine wpAnyH_take (i := 46) (oi := ?oz46) (v := ?vz46) ?hiz46 ?hsz46 ?hfz46 ?hrz46 ?hQz46 (Or.inl ⟨?hwz46, ?hyz46⟩) ?hSz46 ?restz46
              case hiz46 => (simp; rfl)
              case hsz46 => kernel_rfl
              case hfz46 => kernel_rfl
              case hrz46 => kernel_rfl
              case hQz46 => exact fun _ _ _ h => h
              case hwz46 => rfl
              case hyz46 => (intro wq hSq; (try dsimp only at hSq); go_simp; (try with_reducible rfl))
              case hSz46 => assumption
              simp only [Act.put, List.setIfInBounds_toArray, List.set_cons_zero, List.set_cons_succ]
              refine wpAnyH_take (i := 47) (oi := ?oz47) (v := ?vz47) ?hiz47 ?hsz47 ?hfz47 ?hrz47 ?hQz47 (Or.inl ⟨?hwz47, ?hyz47⟩) ?hSz47 ?restz47
              case hiz47 => (simp; rfl)
              case hsz47 => kernel_rfl
              case hfz47 => kernel_rfl
              case hrz47 => kernel_rfl
              case hQz47 => exact fun _ _ _ h => h
              case hwz47 => rfl
              case hyz47 => (intro wq hSq; (try dsimp only at hSq); go_simp; (try with_reducible rfl))
              case hSz47 => assumption
              simp only [Act.put, List.setIfInBounds_toArray, List.set_cons_zero, List.set_cons_succ]
              refine wpAnyH_ready (rs := [43]) (by kernel_rfl) (by simp) ?_
              refine AllReadyH.cons (o := ?oz43) ?hiz43 (fun K hK => ?_) AllReadyH.nil
              case hiz43 => (simp; rfl)
              go_simp
              with_reducible refine (HC7.out _ HBr14.out).mono ?_
              rintro e w15 ⟨rfl, hb⟩
              have HBr15 : Hid (Below w8.heap.size w8 w15) := Mm.hid (HBr14.out.trans (hb.mono HBr14.out.size))
              clear hb
              go_wp2_with fail
              refine hK.out _ _ (HSK.out _ HBr15.out) (fun hHz43 => ?_)
              clear hK K
              refine wpAnyH_ready (rs := [48]) (by kernel_rfl) (by simp) ?_
              refine AllReadyH.cons (o := ?oz48) ?hiz48 (fun K hK => ?_) AllReadyH.nil
              case hiz48 => (simp; rfl)
              go_simp
              with_reducible refine (HC8.out _ HBr15.out).mono ?_
              rintro e w16 ⟨rfl, hb⟩
              have HBr16 : Hid (Below w8.heap.size w8 w16) := Mm.hid (HBr15.out.trans (hb.mono HBr15.out.size))
              clear hb
              go_wp2_with fail
              refine hK.out _ _ (HSK.out _ HBr16.out) (fun hHz48 => ?_)
              clear hK K
              refine wpAnyH_take (i := 49) (oi := ?oz49) (v := ?vz49) ?hiz49 ?hsz49 ?hfz49 ?hrz49 ?hQz49 (Or.inl ⟨?hwz49, ?hyz49⟩) ?hSz49 ?restz49
              case hiz49 => (simp; rfl)
              case hsz49 => kernel_rfl
              case hfz49 => kernel_rfl
              case hrz49 => kernel_rfl
              case hQz49 => exact fun _ _ _ h => h
              case hwz49 => rfl
              case hyz49 => (intro wq hSq; (try dsimp only at hSq); go_simp; (try with_reducible rfl))
              case hSz49 => assumption
              simp only [Act.put, List.setIfInBounds_toArray, List.set_cons_zero, List.set_cons_succ]
              refine wpAnyH_take (i := 50) (oi := ?oz50) (v := ?vz50) ?hiz50 ?hsz50 ?hfz50 ?hrz50 ?hQz50 (Or.inl ⟨?hwz50, ?hyz50⟩) ?hSz50 ?restz50
              case hiz50 => (simp; rfl)
              case hsz50 => kernel_rfl
              case hfz50 => kernel_rfl
              case hrz50 => kernel_rfl
              case hQz50 => exact fun _ _ _ h => h
              case hwz50 => rfl
              case hyz50 => (intro wq hSq; (try dsimp only at hSq); go_simp; (try with_reducible rfl))
              case hSz50 => assumption
              simp only [Act.put, List.setIfInBounds_toArray, List.set_cons_zero, List.set_cons_succ]
              refine wpAnyH_take (i := 51) (oi := ?oz51) (v := ?vz51) ?hiz51 ?hsz51 ?hfz51 ?hrz51 ?hQz51 (Or.inl ⟨?hwz51, ?hyz51⟩) ?hSz51 ?restz51
              case hiz51 => (simp; rfl)
              case hsz51 => kernel_rfl
              case hfz51 => kernel_rfl
              case hrz51 => kernel_rfl
              case hQz51 => exact fun _ _ _ h => h
              case hwz51 => rfl
              case hyz51 => (intro wq hSq; (try dsimp only at hSq); go_simp; (try with_reducible rfl))
              case hSz51 => assumption
              simp only [Act.put, List.setIfInBounds_toArray, List.set_cons_zero, List.set_cons_succ]
              refine wpAnyH_take (i := 52) (oi := ?oz52) (v := ?vz52) ?hiz52 ?hsz52 ?hfz52 ?hrz52 ?hQz52 (Or.inl ⟨?hwz52, ?hyz52⟩) ?hSz52 ?restz52
              case hiz52 => (simp; rfl)
              case hsz52 => kernel_rfl
              case hfz52 => kernel_rfl
              case hrz52 => kernel_rfl
              case hQz52 => exact fun _ _ _ h => h
              case hwz52 => rfl
              case hyz52 => (intro wq hSq; (try dsimp only at hSq); go_simp; (try with_reducible rfl))
              case hSz52 => assumption
              simp only [Act.put, List.setIfInBounds_toArray, List.set_cons_zero, List.set_cons_succ]
              refine wpAnyH_take (i := 54) (oi := ?oz54) (v := ?vz54) ?hiz54 ?hsz54 ?hfz54 ?hrz54 ?hQz54 (Or.inl ⟨?hwz54, ?hyz54⟩) ?hSz54 ?restz54
              case hiz54 => (simp; rfl)
              case hsz54 => kernel_rfl
              case hfz54 => kernel_rfl
              case hrz54 => kernel_rfl
              case hQz54 => exact fun _ _ _ h => h
              case hwz54 => rfl
              case hyz54 => (intro wq hSq; (try dsimp only at hSq); go_simp; (try with_reducible rfl))
              case hSz54 => assumption
              simp only [Act.put, List.setIfInBounds_toArray, List.set_cons_zero, List.set_cons_succ]
              refine wpAnyH_take (i := 55) (oi := ?oz55) (v := ?vz55) ?hiz55 ?hsz55 ?hfz55 ?hrz55 ?hQz55 (Or.inl ⟨?hwz55, ?hyz55⟩) ?hSz55 ?restz55
              case hiz55 => (simp; rfl)
              case hsz55 => kernel_rfl
              case hfz55 => kernel_rfl
              case hrz55 => kernel_rfl
              case hQz55 => exact fun _ _ _ h => h
              case hwz55 => rfl
              case hyz55 => (intro wq hSq; (try dsimp only at hSq); go_simp; (try with_reducible rfl))
              case hSz55 => assumption
              simp only [Act.put, List.setIfInBounds_toArray, List.set_cons_zero, List.set_cons_succ]
              refine wpAnyH_take (i := 56) (oi := ?oz56) (v := ?vz56) ?hiz56 ?hsz56 ?hfz56 ?hrz56 ?hQz56 (Or.inl ⟨?hwz56, ?hyz56⟩) ?hSz56 ?restz56
              case hiz56 => (simp; rfl)
              case hsz56 => kernel_rfl
              case hfz56 => kernel_rfl
              case hrz56 => kernel_rfl
              case hQz56 => exact fun _ _ _ h => h
              case hwz56 => rfl
              case hyz56 => (intro wq hSq; (try dsimp only at hSq); go_simp; (try with_reducible rfl))
              case hSz56 => assumption
              simp only [Act.put, List.setIfInBounds_toArray, List.set_cons_zero, List.set_cons_succ]
              refine wpAnyH_take (i := 57) (oi := ?oz57) (v := ?vz57) ?hiz57 ?hsz57 ?hfz57 ?hrz57 ?hQz57 (Or.inl ⟨?hwz57, ?hyz57⟩) ?hSz57 ?restz57
              case hiz57 => (simp; rfl)
              case hsz57 => kernel_rfl
              case hfz57 => kernel_rfl
              case hrz57 => kernel_rfl
              case hQz57 => exact fun _ _ _ h => h
              case hwz57 => rfl
              case hyz57 => (intro wq hSq; (try dsimp only at hSq); go_simp; (try with_reducible rfl))
              case hSz57 => assumption
              simp only [Act.put, List.setIfInBounds_toArray, List.set_cons_zero, List.set_cons_succ]
              refine wpAnyH_ready (rs := [53]) (by kernel_rfl) (by simp) ?_
              refine AllReadyH.cons (o := ?oz53) ?hiz53 (fun K hK => ?_) AllReadyH.nil
              case hiz53 => (simp; rfl)
              go_simp
              with_reducible refine (HC9.out _ HBr16.out).mono ?_
              rintro e w17 ⟨⟨qa, da, rfl, hia⟩, hb⟩
              have HIa := hia
              clear hia
              have HBr17 : Hid (Below w8.heap.size w8 w17) := Mm.hid (HBr16.out.trans (hb.mono HBr16.out.size))
              clear hb
              go_wp2_with fail
              refine hK.out _ _ (HSK.out _ HBr17.out) (fun hHz53 => ?_)
              clear hK K
              refine wpAnyH_ready (rs := [58]) (by kernel_rfl) (by simp) ?_
              refine AllReadyH.cons (o := ?oz58) ?hiz58 (fun K hK => ?_) AllReadyH.nil
              case hiz58 => (simp; rfl)
              go_simp
              with_reducible refine (HC10.out _ HBr17.out).mono ?_
              rintro e w18 ⟨⟨qb2, db, rfl, hib⟩, hb⟩
              have HIb := hib
              clear hib
              have HIa2 : Hid (Mm.IIn w18 qa A) := Mm.hid (HIa.out.below hb)
              have HBr18 : Hid (Below w8.heap.size w8 w18) := Mm.hid (HBr17.out.trans (hb.mono HBr17.out.size))
              clear hb
              go_wp2_with fail
              refine hK.out _ _ (HSK.out _ HBr18.out) (fun hHz58 => ?_)
              clear hK K
              refine wpAnyH_ready (rs := [59]) (by kernel_rfl) (by simp) ?_
              refine AllReadyH.cons (o := ?oz59) ?hiz59 (fun K hK => ?_) AllReadyH.nil
              case hiz59 => (simp; rfl)
              go_simp
              with_reducible refine (ints_gen A A qa qb2 na na da db _ HIa2 HIb HNA HNA HAN.out).mono ?_
              rintro e w19 ⟨rfl, hb⟩
              rw [decide_eq_true (show A = A from rfl)]
              have HBr19 : Hid (Below w8.heap.size w8 w19) := Mm.hid (HBr18.out.trans (hb.mono HBr18.out.size))
              clear hb
              go_wp2_with fail
              refine hK.out _ _ (HSK.out _ HBr19.out) (fun hHz59 => ?_)
              clear hK K
              refine wpAnyH_take (i := 60) (oi := ?oz60) (v := ?vz60) ?hiz60 ?hsz60 ?hfz60 ?hrz60 ?hQz60 (Or.inl ⟨?hwz60, ?hyz60⟩) ?hSz60 ?restz60
              case hiz60 => (simp; rfl)
              case hsz60 => kernel_rfl
              case hfz60 => kernel_rfl
              case hrz60 => kernel_rfl
              case hQz60 => exact fun _ _ _ h => h
              case hwz60 => rfl
              case hyz60 => (intro wq hSq; (try dsimp only at hSq); go_simp; (try with_reducible rfl))
              case hSz60 => assumption
              simp only [Act.put, List.setIfInBounds_toArray, List.set_cons_zero, List.set_cons_succ]
              refine wpAnyH_take (i := 61) (oi := ?oz61) (v := ?vz61) ?hiz61 ?hsz61 ?hfz61 ?hrz61 ?hQz61 (Or.inl ⟨?hwz61, ?hyz61⟩) ?hSz61 ?restz61
              case hiz61 => (simp; rfl)
              case hsz61 => kernel_rfl
              case hfz61 => kernel_rfl
              case hrz61 => kernel_rfl
              case hQz61 => exact fun _ _ _ h => h
              case hwz61 => rfl
              case hyz61 => (intro wq hSq; (try dsimp only at hSq); go_simp; (try with_reducible rfl))
              case hSz61 => assumption
              simp only [Act.put, List.setIfInBounds_toArray, List.set_cons_zero, List.set_cons_succ]
              refine wpAnyH_done (by kernel_rfl) ?_ _
              go_wp2_with fail
              go_meet
              case rel => exact ⟨rfl, HBr19⟩
            case rest =>
              obtain ⟨h236, hwx⟩ := hcut
              subst h236
              have HBX9 := hwx
              clear hwx hw8 hw5 HX8 HJ8
              go_wp2_with fail
              exact ⟨⟨k + 1, by omega, by go_num, Mm.hid ⟨s, tag, r, cr, kf, HV.out _ HBX9.out⟩⟩, by simp [RowKit.intOf]; omega⟩
        ·
          have he : k = l := by omega
          subst he
          have HBL := Mm.hid HJ.out.j.bel
          go_wp2_with fail
          refine (wakesI_any _ (HM.out.below HBL.out)).mono ?_
          rintro e wk ⟨rfl, hb⟩
          have HBK := Mm.hid (Vl.btr HBL.out hb)
          clear hb
          go_wp2_with fail
          go_ret
          exact ⟨rfl, HBK.out⟩
  ·
    have hf : fan < 2 ∨ 64 < fan := by omega
    clear hfan hbig
    have HNW := Mm.hid (newI_err fan hf W)
    have HRN := Mm.hid (refNewI_err fan hf W)
    have HWK := Mm.hid (wakesI_any W HM.out)
    clear hf
    go_enter Tryz.func3, Tryz.ntmps3
    go_wp2_with fail
    refine HNW.out.mono ?_
    rintro e w1 ⟨rfl, h1⟩
    subst h1
    go_wp2_with fail
    refine HRN.out.mono ?_
    rintro e w2 ⟨rfl, h2⟩
    subst h2
    go_wp2_with fail
    refine HWK.out.mono ?_
    rintro e wk ⟨rfl, hb⟩
    have HBK := Mm.hid hb
    clear hb
    go_wp2_with fail
    go_ret
    exact ⟨rfl, HBK.out⟩
end Go.Proofs.YtjnaafgiokdcbaaGreatDoor
