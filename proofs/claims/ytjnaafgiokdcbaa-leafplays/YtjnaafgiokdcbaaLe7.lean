/- The law LeafPlays. -/
import Derived.Test.YtjnaafgiokdcbaaLe6
import Derived.Test.YtjnaafgiokdcbaaLd2
import Derived.Deep.CutRange
namespace Go.Proofs.Ytjnaafgiokdcbaa
open Go.RowKit

set_option maxRecDepth 100000 in
set_option maxHeartbeats 16000000 in
theorem leafPlays_all (fan : Int) (a : Option Addr) (l c : Nat) (zs : List Cg.Stp) (W : World) (_ : True) (hz0 : Cg.Stps W a l c zs) : Calls Try.prog 3 #[.int .i64 fan, .slice a l c] W fun e w' => e = .returned (.bool true) ∧ Below W.heap.size W w' := by
  have HZ := Mm.hid hz0
  have hbig : l ≤ 9223372036854775807 := by have := hz0.big; unfold maxLen at this; omega
  clear hz0
  by_cases hfan : 2 ≤ fan ∧ fan ≤ 64
  · obtain ⟨f, hf⟩ : ∃ f : Nat, fan = (f : Int) := ⟨fan.toNat, by omega⟩
    subst hf
    obtain ⟨hf1, hf2⟩ := hfan
    have hf2' : 2 ≤ f := by omega
    have hf64 : f ≤ 64 := by omega
    clear hf1 hf2
    go_enter Try.func3, Try.ntmps3
    go_wp2_with fail
    refine (new_any f hf2' hf64 W).mono ?_
    rintro e w1 ⟨rfl, rfl⟩
    have HB1 := Mm.hid (Lf.bel0 W f)
    have HQ1 := Mm.hid (Lf.lq0 W f hf2' hf64)
    generalize Lf.W0 W f = w1 at HB1 HQ1 ⊢
    generalize Lf.tag0 W.heap.size = t1 at HQ1
    obtain ⟨p, hp⟩ : ∃ p, p = W.heap.size + 2 := ⟨_, rfl⟩
    rw [← hp] at HQ1 ⊢
    clear hp
    go_wp2_with fail
    refine (refNew_any f hf2' hf64 w1).mono ?_
    rintro e w2 ⟨rfl, rfl⟩
    obtain ⟨pr, hpr⟩ : ∃ pr, pr = w1.heap.size + 1 := ⟨_, rfl⟩
    have HJ2 : Hid (Lf.Jt W (Lf.RW w1 f) t1 p (Lf.S0 f) 0 w1.heap.size pr w1.heap.size 1 (fun _ => .slice none 0 0) (Lf.S0 f)) := Mm.hid (by
      rw [hpr]
      refine ⟨HQ1.out.below (Lf.rw_bel w1 f), Lf.rm0 w1 f, fun b hb => ?_, ⟨HB1.out.size, (Lf.rw_bel w1 f).size⟩, HB1.out.trans ((Lf.rw_bel w1 f).mono HB1.out.size)⟩
      rcases hb with h | h | ⟨P, _, h⟩
      · exact HQ1.out.top b (by omega)
      · exact HQ1.out.top b (by omega)
      · cases h)
    rw [← hpr]
    generalize Lf.RW w1 f = w2 at HJ2 ⊢
    obtain ⟨B0, hB0⟩ : ∃ B0, B0 = w1.heap.size := ⟨_, rfl⟩
    rw [← hB0] at HJ2
    clear hpr hB0 HB1 HQ1 hf2' hf64
    go_wp2_with fail
    refine (fair_any a l c zs W w2 HZ (Mm.hid HJ2.out.bel) hbig).mono ?_
    rintro e w3 ⟨b, rfl, hb, rfl⟩
    cases b with
    | false =>
      go_wp2_with fail
      refine (wakes_any _).mono ?_
      rintro e w4 ⟨rfl, hb4⟩
      have HB4 : Hid (Below W.heap.size W w4) := Mm.hid (HJ2.out.bel.trans (hb4.mono HJ2.out.bel.size))
      clear hb4
      go_wp2_with fail
      go_ret
      exact ⟨rfl, HB4.out⟩
    | true =>
      have hl : l ≤ 200 := hb rfl
      clear hb hbig
      go_wp2_with fail
      go_loopw [9] (fun vi wr => ∃ k : Nat, k ≤ l ∧ vi = .int .i64 (k : Int) ∧ Hid (∃ s tag r c kf, Lf.Jt W wr tag p s k B0 pr r c kf s)) (fun vi _ => l - (RowKit.intOf vi).toNat)
      case atStart => exact ⟨0, Nat.zero_le _, rfl, Mm.hid ⟨_, _, _, _, _, HJ2.out⟩⟩
      case round =>
        clear HJ2
        obtain ⟨k, hk, rfl, HL⟩ := hrel
        rename World => wr
        obtain ⟨s, tag, r, cr, kf, hj⟩ := HL.out
        have HJ := Mm.hid hj
        clear hj HL
        by_cases hlt : k < l
        · obtain ⟨x, hx⟩ : ∃ x, zs[k]? = some x := ⟨zs[k]'(by rw [HZ.out.len]; exact hlt), List.getElem?_eq_getElem _⟩
          obtain ⟨bb, o, rfl, hbl, d0, d1, d2⟩ := HZ.out.at_ k x hx
          obtain ⟨kd, key, tto⟩ := x
          have e0 : wr.cell? ⟨bb, o + k * 3, none⟩ = some (.int .i64 kd) := (Mm.belAt HJ.out.bel _ hbl).trans d0
          have e1 : wr.cell? ⟨bb, o + k * 3 + 1, none⟩ = some (.string key) := (Mm.belAt HJ.out.bel _ hbl).trans d1
          have e2 : wr.cell? ⟨bb, o + k * 3 + 2, none⟩ = some (.string tto) := (Mm.belAt HJ.out.bel _ hbl).trans d2
          have g1 : (0 : Int) ≤ (k : Int) := by omega
          have g2 : (k : Int) < (l : Int) := by omega
          clear d0 d1 d2 hx
          obtain ⟨w1, hw1⟩ : ∃ w1, wr.alloc (.cells #[.int .i64 kd, .string key, .string tto] 33) = w1 := ⟨_, rfl⟩
          have HB1 : Hid (Below wr.heap.size wr w1) := Mm.hid (by rw [← hw1]; exact (Below.refl _ _).alloc (Nat.le_refl _) _)
          have HX1 : Hid (w1.heap[wr.heap.size]? = some (.cells #[.int .i64 kd, .string key, .string tto] 33 (0, 0))) := Mm.hid (by rw [← hw1]; exact Mm.newAt _ _ rfl)
          have HJ1 := Mm.hid (HJ.out.below HB1.out)
          have HTG : Hid (tag wr.heap.size = none) := Mm.hid (HJ.out.q.top _ (Nat.le_refl _))
          have HRL : Hid (pr < wr.heap.size ∧ r < wr.heap.size) := Mm.hid ⟨Lf.Rb.lt HJ.out.m (Or.inl rfl), HJ.out.m.row.1⟩
          have HIV : Hid (Lf.Inv s) := Mm.hid HJ.out.q.2.1
          have HLA : Hid (s.last ≤ k + 1 ∧ s.pgs.length ≤ s.last) := Mm.hid ⟨HJ.out.q.2.2.1, HJ.out.q.2.1.ln⟩
          have y0 : w1.cell? ⟨wr.heap.size, 0, none⟩ = some (.int .i64 kd) := Mm.cellOf HX1.out rfl
          go_upto_if 63 with fail
          clear e0 e1 e2 hw1
          go_cut [10] from 61 to 99 (fun v10 wx => v10 = .pointer (some ⟨wr.heap.size, 0, none⟩) ∧ Hid (∃ N s tag r c kf, Lf.Jt W wx tag p s N B0 pr r c kf s ∧ wx.heap[wr.heap.size]? = some (.cells #[.int .i64 kd, .string key, .string tto] 33 (0, 0)) ∧ N ≤ k + 1 ∧ (kd ≠ 0 → N = k) ∧ tag wr.heap.size = none ∧ r ≠ wr.heap.size))
          case first =>
            have y1 : w1.cell? ⟨wr.heap.size, 1, none⟩ = some (.string key) := Mm.cellOf HX1.out rfl
            by_cases hk0 : kd = 0
            · subst hk0
              have h0 : ((0 : Int) == 0) = true := rfl
              go_wp2_with fail
              refine (insert_q (Mm.hid HJ1.out.q) (by omega) HJ1.out.bel.size key).mono ?_
              rintro e w2 ⟨s1, l1, f1, m1, r1, rfl, hr, t1, hq, hE⟩
              have HJ2 := Mm.hid (HJ1.out.prog hq hE)
              have HX2 : Hid (w2.heap[wr.heap.size]? = some (.cells #[.int .i64 0, .string key, .string tto] 33 (0, 0))) := Mm.hid ((hE.block _ (Mm.heapLt HX1.out) HTG.out).trans HX1.out)
              have HR := Mm.hid hr
              have HS2 : Hid (wr.heap.size < w2.heap.size ∧ w1.heap.size ≤ w2.heap.size) := Mm.hid ⟨Mm.heapLt HX2.out, hE.size⟩
              have HT4 : Hid (t1 wr.heap.size = none) := Mm.hid (hE.tags _ (Mm.heapLt HX1.out) HTG.out)
              clear hr hq hE y0 y1
              obtain ⟨w3, hw3⟩ : ∃ w3, w2.alloc (.cells #[.int .i64 (f1 : Int), .int .i64 (m1 : Int)] 35) = w3 := ⟨_, rfl⟩
              have HB3 : Hid (Below w2.heap.size w2 w3) := Mm.hid (by rw [← hw3]; exact (Below.refl _ _).alloc (Nat.le_refl _) _)
              have HM3 : Hid (w3.heap[w2.heap.size]? = some (.cells #[.int .i64 (f1 : Int), .int .i64 (m1 : Int)] 35 (0, 0))) := Mm.hid (by rw [← hw3]; exact Mm.newAt _ _ rfl)
              have HX3 : Hid (w3.heap[wr.heap.size]? = some (.cells #[.int .i64 0, .string key, .string tto] 33 (0, 0))) := Mm.hid ((HB3.out.block _ HS2.out.1).trans HX2.out)
              have HJ3 := Mm.hid (HJ2.out.below HB3.out)
              have z1 : w3.cell? ⟨wr.heap.size, 1, none⟩ = some (.string key) := Mm.cellOf HX3.out rfl
              go_wp2_with fail
              refine (refInsert_any (Mm.hid HJ3.out.m) HIV (Mm.hid HJ3.out.hb.2) (by have := HLA.out; omega) (by have := HLA.out; omega) key).mono ?_
              rintro e w4 ⟨s2, l2, f2, m2, r2, rfl, hr2, hO⟩
              obtain ⟨rfl, rfl, rfl, rfl, rfl⟩ := HR.out.det hr2
              obtain ⟨⟨r', c', kf', hj4⟩, hTc⟩ := HJ3.out.ref hO
              have HJ4 := Mm.hid hj4
              have HR4 : Hid (r' ≠ wr.heap.size) := Mm.hid (fun e => by
                have h9 := hj4.m.cells
                obtain ⟨cur, h9, _⟩ := h9
                rw [e, hTc.block _ (Mm.heapLt HX3.out) (by have := HRL.out; omega) (by have := HRL.out; omega), HX3.out] at h9
                injection h9 with h9
                injection h9 with _ h9 _
                revert h9
                decide)
              have HX4 : Hid (w4.heap[wr.heap.size]? = some (.cells #[.int .i64 0, .string key, .string tto] 33 (0, 0))) := Mm.hid ((hTc.block _ (Mm.heapLt HX3.out) (by have := HRL.out; omega) (by have := HRL.out; omega)).trans HX3.out)
              have HM4 : Hid (w4.heap[w2.heap.size]? = some (.cells #[.int .i64 (f1 : Int), .int .i64 (m1 : Int)] 35 (0, 0))) := Mm.hid ((hTc.block _ (Mm.heapLt HM3.out) (by have := HRL.out; have := HS2.out; omega) (by have := HRL.out; have := HS2.out; omega)).trans HM3.out)
              clear hr2 hO hTc hj4 hw3 z1
              obtain ⟨w5, hw5⟩ : ∃ w5, w4.alloc (.cells #[.int .i64 (l1 : Int), .int .i64 (f1 : Int), .int .i64 (m1 : Int), .int .i64 (r1 : Int)] 39) = w5 := ⟨_, rfl⟩
              have HB5 : Hid (Below w4.heap.size w4 w5) := Mm.hid (by rw [← hw5]; exact (Below.refl _ _).alloc (Nat.le_refl _) _)
              have HD5 : Hid (w5.heap[w4.heap.size]? = some (.cells #[.int .i64 (l1 : Int), .int .i64 (f1 : Int), .int .i64 (m1 : Int), .int .i64 (r1 : Int)] 39 (0, 0))) := Mm.hid (by rw [← hw5]; exact Mm.newAt _ _ rfl)
              have HX5 : Hid (w5.heap[wr.heap.size]? = some (.cells #[.int .i64 0, .string key, .string tto] 33 (0, 0))) := Mm.hid ((HB5.out.block _ (Mm.heapLt HX4.out)).trans HX4.out)
              have HM5 : Hid (w5.heap[w2.heap.size]? = some (.cells #[.int .i64 (f1 : Int), .int .i64 (m1 : Int)] 35 (0, 0))) := Mm.hid ((HB5.out.block _ (Mm.heapLt HM4.out)).trans HM4.out)
              have HJ5 := Mm.hid (HJ4.out.below HB5.out)
              have a0 : w5.cell? ⟨w2.heap.size, 0, none⟩ = some (.int .i64 (f1 : Int)) := Mm.cellOf HM5.out rfl
              have a1 : w5.cell? ⟨w2.heap.size, 1, none⟩ = some (.int .i64 (m1 : Int)) := Mm.cellOf HM5.out rfl
              have b0 : w5.cell? ⟨w4.heap.size, 0, none⟩ = some (.int .i64 (l1 : Int)) := Mm.cellOf HD5.out rfl
              have b1 : w5.cell? ⟨w4.heap.size, 1, none⟩ = some (.int .i64 (f1 : Int)) := Mm.cellOf HD5.out rfl
              have b2 : w5.cell? ⟨w4.heap.size, 2, none⟩ = some (.int .i64 (m1 : Int)) := Mm.cellOf HD5.out rfl
              have b3 : w5.cell? ⟨w4.heap.size, 3, none⟩ = some (.int .i64 (r1 : Int)) := Mm.cellOf HD5.out rfl
              have x0 : w5.cell? ⟨wr.heap.size, 0, none⟩ = some (.int .i64 0) := Mm.cellOf HX5.out rfl
              go_wp2_with fail
              go_meet
              case rel => exact ⟨rfl, Mm.hid ⟨k + 1, _, _, _, _, _, HJ5.out, HX5.out, Nat.le_refl _, fun h => absurd rfl h, HT4.out, HR4.out⟩⟩
            · have h0 : (kd == 0) = false := by simpa using hk0
              have HK0 := Mm.hid hk0
              clear hk0
              go_wp2_with fail
              go_meet
              case rel => exact ⟨rfl, Mm.hid ⟨k, _, _, _, _, _, HJ1.out, HX1.out, Nat.le_succ _, fun _ => rfl, HTG.out, by have := HRL.out; omega⟩⟩
          case rest =>
          obtain ⟨h10, hwx⟩ := hcut
          subst h10
          have HPR : Hid (pr < wr.heap.size) := Mm.hid HRL.out.1
          clear HJ1 HX1 HB1 HTG HRL HIV HLA HJ y0 w1
          rename World => w1
          obtain ⟨N, s, tag, r, cr, kf, hj1, hx1, hN1, hN2, htg, hrn⟩ := hwx.out
          have HJ1 := Mm.hid hj1
          have HX1 := Mm.hid hx1
          have HTG := Mm.hid htg
          have HRL : Hid (pr ≠ wr.heap.size ∧ r ≠ wr.heap.size ∧ pr < w1.heap.size ∧ r < w1.heap.size) := Mm.hid ⟨by have := HPR.out; omega, hrn, Lf.Rb.lt hj1.m (Or.inl rfl), hj1.m.row.1⟩
          have HNK : Hid (N ≤ k + 1 ∧ (kd ≠ 0 → N = k)) := Mm.hid ⟨hN1, hN2⟩
          have HIV : Hid (Lf.Inv s) := Mm.hid HJ1.out.q.2.1
          have HLA : Hid (s.last ≤ N + 1 ∧ s.pgs.length ≤ s.last) := Mm.hid ⟨HJ1.out.q.2.2.1, HJ1.out.q.2.1.ln⟩
          clear hj1 hx1 hN1 hN2 htg hrn hwx
          have y0 : w1.cell? ⟨wr.heap.size, 0, none⟩ = some (.int .i64 kd) := Mm.cellOf HX1.out rfl
          go_upto_if 102 with fail
          go_cut [10] from 100 to 138 (fun v10 wx => v10 = .pointer (some ⟨wr.heap.size, 0, none⟩) ∧ Hid (∃ s tag r c kf, Lf.Jt W wx tag p s (k + 1) B0 pr r c kf s ∧ wx.heap[wr.heap.size]? = some (.cells #[.int .i64 kd, .string key, .string tto] 33 (0, 0))))
          case first =>
            have y1 : w1.cell? ⟨wr.heap.size, 1, none⟩ = some (.string key) := Mm.cellOf HX1.out rfl
            by_cases hk1 : kd = 1
            · subst hk1
              have h0 : ((1 : Int) == 1) = true := rfl
              have hNk : N = k := HNK.out.2 (by decide)
              subst hNk
              go_wp2_with fail
              refine (remove_q (Mm.hid HJ1.out.q) (by omega) key).mono ?_
              rintro e w2 ⟨s1, l1, f1, m1, r1, rfl, hr, t1, hq, hE⟩
              have HJ2 := Mm.hid (HJ1.out.prog hq hE)
              have HX2 : Hid (w2.heap[wr.heap.size]? = some (.cells #[.int .i64 1, .string key, .string tto] 33 (0, 0))) := Mm.hid ((hE.block _ (Mm.heapLt HX1.out) HTG.out).trans HX1.out)
              have HR := Mm.hid hr
              have HS2 : Hid (wr.heap.size < w2.heap.size ∧ w1.heap.size ≤ w2.heap.size) := Mm.hid ⟨Mm.heapLt HX2.out, hE.size⟩
              have HT4 : Hid (t1 wr.heap.size = none) := Mm.hid (hE.tags _ (Mm.heapLt HX1.out) HTG.out)
              clear hr hq hE y0 y1
              obtain ⟨w3, hw3⟩ : ∃ w3, w2.alloc (.cells #[.int .i64 (f1 : Int), .int .i64 (m1 : Int)] 35) = w3 := ⟨_, rfl⟩
              have HB3 : Hid (Below w2.heap.size w2 w3) := Mm.hid (by rw [← hw3]; exact (Below.refl _ _).alloc (Nat.le_refl _) _)
              have HM3 : Hid (w3.heap[w2.heap.size]? = some (.cells #[.int .i64 (f1 : Int), .int .i64 (m1 : Int)] 35 (0, 0))) := Mm.hid (by rw [← hw3]; exact Mm.newAt _ _ rfl)
              have HX3 : Hid (w3.heap[wr.heap.size]? = some (.cells #[.int .i64 1, .string key, .string tto] 33 (0, 0))) := Mm.hid ((HB3.out.block _ HS2.out.1).trans HX2.out)
              have HJ3 := Mm.hid (HJ2.out.below HB3.out)
              have z1 : w3.cell? ⟨wr.heap.size, 1, none⟩ = some (.string key) := Mm.cellOf HX3.out rfl
              go_wp2_with fail
              refine (refRemove_any (Mm.hid HJ3.out.m) HIV (Mm.hid HJ3.out.hb.2) (by have := HLA.out; omega) key).mono ?_
              rintro e w4 ⟨s2, l2, f2, m2, r2, rfl, hr2, hO⟩
              obtain ⟨rfl, rfl, rfl, rfl, rfl⟩ := HR.out.det hr2
              obtain ⟨⟨r', c', kf', hj4⟩, hTc⟩ := HJ3.out.ref hO
              have HJ4 := Mm.hid hj4
              have HR4 : Hid (r' ≠ wr.heap.size) := Mm.hid (fun e => by
                have h9 := hj4.m.cells
                obtain ⟨cur, h9, _⟩ := h9
                rw [e, hTc.block _ (Mm.heapLt HX3.out) (by have := HRL.out; omega) (by have := HRL.out; omega), HX3.out] at h9
                injection h9 with h9
                injection h9 with _ h9 _
                revert h9
                decide)
              have HX4 : Hid (w4.heap[wr.heap.size]? = some (.cells #[.int .i64 1, .string key, .string tto] 33 (0, 0))) := Mm.hid ((hTc.block _ (Mm.heapLt HX3.out) (by have := HRL.out; omega) (by have := HRL.out; omega)).trans HX3.out)
              have HM4 : Hid (w4.heap[w2.heap.size]? = some (.cells #[.int .i64 (f1 : Int), .int .i64 (m1 : Int)] 35 (0, 0))) := Mm.hid ((hTc.block _ (Mm.heapLt HM3.out) (by have := HRL.out; have := HS2.out; omega) (by have := HRL.out; have := HS2.out; omega)).trans HM3.out)
              clear hr2 hO hTc hj4 hw3 z1
              obtain ⟨w5, hw5⟩ : ∃ w5, w4.alloc (.cells #[.int .i64 (l1 : Int), .int .i64 (f1 : Int), .int .i64 (m1 : Int), .int .i64 (r1 : Int)] 39) = w5 := ⟨_, rfl⟩
              have HB5 : Hid (Below w4.heap.size w4 w5) := Mm.hid (by rw [← hw5]; exact (Below.refl _ _).alloc (Nat.le_refl _) _)
              have HD5 : Hid (w5.heap[w4.heap.size]? = some (.cells #[.int .i64 (l1 : Int), .int .i64 (f1 : Int), .int .i64 (m1 : Int), .int .i64 (r1 : Int)] 39 (0, 0))) := Mm.hid (by rw [← hw5]; exact Mm.newAt _ _ rfl)
              have HX5 : Hid (w5.heap[wr.heap.size]? = some (.cells #[.int .i64 1, .string key, .string tto] 33 (0, 0))) := Mm.hid ((HB5.out.block _ (Mm.heapLt HX4.out)).trans HX4.out)
              have HM5 : Hid (w5.heap[w2.heap.size]? = some (.cells #[.int .i64 (f1 : Int), .int .i64 (m1 : Int)] 35 (0, 0))) := Mm.hid ((HB5.out.block _ (Mm.heapLt HM4.out)).trans HM4.out)
              have HJ5 := Mm.hid (HJ4.out.below HB5.out)
              have a0 : w5.cell? ⟨w2.heap.size, 0, none⟩ = some (.int .i64 (f1 : Int)) := Mm.cellOf HM5.out rfl
              have a1 : w5.cell? ⟨w2.heap.size, 1, none⟩ = some (.int .i64 (m1 : Int)) := Mm.cellOf HM5.out rfl
              have b0 : w5.cell? ⟨w4.heap.size, 0, none⟩ = some (.int .i64 (l1 : Int)) := Mm.cellOf HD5.out rfl
              have b1 : w5.cell? ⟨w4.heap.size, 1, none⟩ = some (.int .i64 (f1 : Int)) := Mm.cellOf HD5.out rfl
              have b2 : w5.cell? ⟨w4.heap.size, 2, none⟩ = some (.int .i64 (m1 : Int)) := Mm.cellOf HD5.out rfl
              have b3 : w5.cell? ⟨w4.heap.size, 3, none⟩ = some (.int .i64 (r1 : Int)) := Mm.cellOf HD5.out rfl
              have x0 : w5.cell? ⟨wr.heap.size, 0, none⟩ = some (.int .i64 1) := Mm.cellOf HX5.out rfl
              go_wp2_with fail
              go_meet
              case rel => exact ⟨rfl, Mm.hid ⟨_, _, _, _, _, HJ5.out, HX5.out⟩⟩
            · have h0 : (kd == 1) = false := by simpa using hk1
              clear hk1
              go_wp2_with fail
              go_meet
              case rel => exact ⟨rfl, Mm.hid ⟨_, _, _, _, _, HJ1.out.le HNK.out.1, HX1.out⟩⟩
          case rest =>
            obtain ⟨h10, hwx⟩ := hcut
            subst h10
            rename World => w2
            clear HJ1 HX1 HTG HRL HIV HLA HPR HNK y0
            obtain ⟨s, tag, r, cr, kf, hj, hx2⟩ := hwx.out
            have HJ := Mm.hid hj
            have HX2 := Mm.hid hx2
            clear hj hx2 hwx
            have HIV : Hid (Lf.Inv s) := Mm.hid HJ.out.q.2.1
            have hcn : s.count ≤ k + 1 := HJ.out.q.2.2.2
            have hla : s.last ≤ k + 2 := HJ.out.q.2.2.1
            have hpn : s.pgs.length ≤ s.last := HJ.out.q.2.1.ln
            have HFL : Hid ((Lf.flat s.pgs).length = s.count) := Mm.hid (Lf.flat_cnt HIV.out)
            have HPK : Hid (∀ P ∈ s.pgs, P.ks.length ≤ 100000) := Mm.hid (fun P hP => by have := (HIV.out.ks P hP).2.2; have := HIV.out.f2; omega)
            have y1 : w2.cell? ⟨wr.heap.size, 1, none⟩ = some (.string key) := Mm.cellOf HX2.out rfl
            have y2 : w2.cell? ⟨wr.heap.size, 2, none⟩ = some (.string tto) := Mm.cellOf HX2.out rfl
            have HBX : Hid (wr.heap.size < w2.heap.size) := Mm.hid (Mm.heapLt HX2.out)
            go_wp2_with fail
            refine (range_q (Mm.hid HJ.out.q) (by omega) key tto).mono ?_
            rintro e w3 ⟨v1, v2, rfl, hT⟩
            obtain ⟨q1, c1, e1, -, S1⟩ := Lf.own_sin hT.o1
            obtain ⟨q2, c2, e2, I2⟩ := hT.o2.nin
            obtain ⟨K, hK9⟩ : ∃ K, K = Lf.spanK s key tto := ⟨_, rfl⟩
            obtain ⟨V, hV9⟩ : ∃ V, V = (Lf.spanL s key tto).map (fun n : Nat => (n : Int)) := ⟨_, rfl⟩
            have HKE := Mm.hid hK9
            have HVE := Mm.hid hV9
            rw [← hK9] at e1 S1
            rw [← hV9] at e2 I2
            obtain ⟨n1, hn1⟩ : ∃ n1, n1 = K.length := ⟨_, rfl⟩
            obtain ⟨n2, hn2⟩ : ∃ n2, n2 = V.length := ⟨_, rfl⟩
            rw [← hn1] at e1
            rw [← hn2] at e2
            subst e1 e2
            have HN1 := Mm.hid hn1
            have HN2 := Mm.hid hn2
            have HS1 : Hid (Lf.SIn w3 q1 K) := Mm.hid S1
            have HI2 : Hid (Mm.IIn w3 q2 V) := Mm.hid I2
            have HB3 : Hid (Below w2.heap.size w2 w3) := Mm.hid hT.bel
            have HJ3 := Mm.hid (HJ.out.below HB3.out)
            have HX3 : Hid (w3.heap[wr.heap.size]? = some (.cells #[.int .i64 kd, .string key, .string tto] 33 (0, 0))) := Mm.hid ((HB3.out.block _ HBX.out).trans HX2.out)
            have HKN : Hid (K.length ≤ 1000000 ∧ V.length ≤ 1000000) := Mm.hid (by
              have h1 := Lf.spanK_len HIV.out key tto
              have h2 := Lf.spanL_len HIV.out key tto
              have h3 := HFL.out
              rw [hK9, hV9, List.length_map]
              omega)
            have y1 : w3.cell? ⟨wr.heap.size, 1, none⟩ = some (.string key) := Mm.cellOf HX3.out rfl
            have y2 : w3.cell? ⟨wr.heap.size, 2, none⟩ = some (.string tto) := Mm.cellOf HX3.out rfl
            clear S1 I2 hT hK9 hV9 hn1 hn2
            go_wp2_with fail
            refine (refRange_any (Mm.hid HJ3.out.m.rd) HIV (by omega) HPK.out (by rw [HFL.out]; omega) key tto).mono ?_
            rintro e w4 ⟨v3, v4, rfl, hT⟩
            obtain ⟨q3, c3, e3, -, S3⟩ := Lf.own_sin hT.o1
            obtain ⟨q4, c4, e4, I4⟩ := hT.o2.nin
            rw [← HKE.out] at e3 S3
            rw [← HVE.out] at e4 I4
            rw [← HN1.out] at e3
            rw [← HN2.out] at e4
            subst e3 e4
            obtain ⟨w5, hw5⟩ : ∃ w5, w4.alloc (.cells #[.slice q3 n1 c3, .slice q4 n2 c4] 46) = w5 := ⟨_, rfl⟩
            have HB5 : Hid (Below w4.heap.size w4 w5) := Mm.hid (by rw [← hw5]; exact (Below.refl _ _).alloc (Nat.le_refl _) _)
            have HB35 : Hid (Below w3.heap.size w3 w5) := Mm.hid (hT.bel.trans (HB5.out.mono hT.bel.size))
            have HD5 : Hid (w5.heap[w4.heap.size]? = some (.cells #[.slice q3 n1 c3, .slice q4 n2 c4] 46 (0, 0))) := Mm.hid (by rw [← hw5]; exact Mm.newAt _ _ rfl)
            have HX5 : Hid (w5.heap[wr.heap.size]? = some (.cells #[.int .i64 kd, .string key, .string tto] 33 (0, 0))) := Mm.hid ((HB35.out.block _ (Mm.heapLt HX3.out)).trans HX3.out)
            have HJ5 := Mm.hid (HJ3.out.below HB35.out)
            have HS3 : Hid (Lf.SIn w5 q3 K) := Mm.hid (S3.below HB5.out)
            have HI4 : Hid (Mm.IIn w5 q4 V) := Mm.hid (I4.below HB5.out)
            have HS15 : Hid (Lf.SIn w5 q1 K) := Mm.hid (HS1.out.below HB35.out)
            have HI25 : Hid (Mm.IIn w5 q2 V) := Mm.hid (HI2.out.below HB35.out)
            obtain ⟨L, P, R, hs⟩ := Lf.spl_ex HIV.out key
            have HSP := Mm.hid hs
            have HLF : Hid (Lf.leafOf s key = P) := Mm.hid (Lf.leaf_spl hs)
            have HPM : Hid (P ∈ s.pgs) := Mm.hid hs.mem
            clear S3 I4 hT hs y1 y2
            have HV : Hid (∀ w', Below w5.heap.size w5 w' → Lf.Jt W w' tag p s (k + 1) B0 pr r cr kf s) := Mm.hid (fun w' hb => HJ5.out.below hb)
            have HSK : Hid (∀ w', Below w5.heap.size w5 w' → w'.cell? ⟨wr.heap.size, 1, none⟩ = some (.string key) ∧ w'.cell? ⟨w4.heap.size, 0, none⟩ = some (.slice q3 n1 c3) ∧ w'.cell? ⟨w4.heap.size, 1, none⟩ = some (.slice q4 n2 c4)) := Mm.hid (fun w' hb => ⟨(Mm.belAt hb _ (Mm.heapLt HX5.out)).trans (Mm.cellOf HX5.out rfl), (Mm.belAt hb _ (Mm.heapLt HD5.out)).trans (Mm.cellOf HD5.out rfl), (Mm.belAt hb _ (Mm.heapLt HD5.out)).trans (Mm.cellOf HD5.out rfl)⟩)
            obtain ⟨b, hbb⟩ : ∃ b, b = Lf.inKs P.ks key := ⟨_, rfl⟩
            obtain ⟨nn, hnn⟩ : ∃ nn, nn = P.n := ⟨_, rfl⟩
            obtain ⟨cnt, hcc⟩ : ∃ cnt, cnt = s.count := ⟨_, rfl⟩
            obtain ⟨A, hA⟩ : ∃ A, A = (Lf.nums s.pgs).map (fun n : Nat => (n : Int)) := ⟨_, rfl⟩
            obtain ⟨na, hna⟩ : ∃ na, na = A.length := ⟨_, rfl⟩
            have HNA := Mm.hid hna
            have HAE := Mm.hid hA
            have HAN : Hid (A.length ≤ 1000000) := Mm.hid (by rw [hA, List.length_map]; show (s.pgs.map _).length ≤ _; rw [List.length_map]; omega)
            have hpk : P.ks.length ≤ 100000 := HPK.out P HPM.out
            have HC1 : Hid (∀ w', Below w5.heap.size w5 w' → Calls Try.prog 14 #[.slice q1 n1 c1, .slice q3 n1 c3] w' fun e w'' => e = .returned (.bool true) ∧ Below w'.heap.size w' w'') := Mm.hid (fun w' hb => by
              have h := texts_gen K K q1 q3 n1 n1 c1 c3 w' (Mm.hid (HS15.out.below hb)) (Mm.hid (HS3.out.below hb)) HN1 HN1 HKN.out.1
              rw [decide_eq_true rfl] at h
              exact h)
            have HC2 : Hid (∀ w', Below w5.heap.size w5 w' → Calls Try.prog 15 #[.slice q2 n2 c2, .slice q4 n2 c4] w' fun e w'' => e = .returned (.bool true) ∧ Below w'.heap.size w' w'') := Mm.hid (fun w' hb => by
              have h := ints_gen V V q2 q4 n2 n2 c2 c4 w' (Mm.hid (HI25.out.below hb)) (Mm.hid (HI4.out.below hb)) HN2 HN2 HKN.out.2
              rw [decide_eq_true rfl] at h
              exact h)
            have HC3 : Hid (∀ w', Below w5.heap.size w5 w' → Calls Try.prog 16 #[.pointer (some ⟨p, 0, none⟩), .string key] w' fun e w'' => e = .returned (.bool b) ∧ Below w'.heap.size w' w'') := Mm.hid (fun w' hb => by
              have h := has_q (Mm.hid (HV.out w' hb).q) (by omega) key
              rw [HLF.out, ← hbb] at h
              exact h)
            have HC4 : Hid (∀ w', Below w5.heap.size w5 w' → Calls Try.prog 17 #[.pointer (some ⟨pr, 0, none⟩), .string key] w' fun e w'' => e = .returned (.bool b) ∧ Below w'.heap.size w' w'') := Mm.hid (fun w' hb => by
              have h := refHas_any (Mm.hid (HV.out w' hb).m.rd) HSP (by omega) hpk
              rw [← hbb] at h
              exact h)
            have HC5 : Hid (∀ w', Below w5.heap.size w5 w' → Calls Try.prog 18 #[.pointer (some ⟨p, 0, none⟩), .string key] w' fun e w'' => e = .returned (.int .i64 (nn : Int)) ∧ Below w'.heap.size w' w'') := Mm.hid (fun w' hb => by
              have h := of_q (Mm.hid (HV.out w' hb).q) (by omega) key
              rw [HLF.out, ← hnn] at h
              exact h)
            have HC6 : Hid (∀ w', Below w5.heap.size w5 w' → Calls Try.prog 19 #[.pointer (some ⟨pr, 0, none⟩), .string key] w' fun e w'' => e = .returned (.int .i64 (nn : Int)) ∧ Below w'.heap.size w' w'') := Mm.hid (fun w' hb => by
              have h := refOf_any (Mm.hid (HV.out w' hb).m.rd) HSP (by omega)
              rw [← hnn] at h
              exact h)
            have HC7 : Hid (∀ w', Below w5.heap.size w5 w' → Calls Try.prog 20 #[.pointer (some ⟨p, 0, none⟩)] w' fun e w'' => ∃ q c, e = .returned (.slice q na c) ∧ Hid (Mm.IIn w'' q A) ∧ Below w'.heap.size w' w'') := Mm.hid (fun w' hb => by
              refine (all_q (Mm.hid (HV.out w' hb).q) (by omega)).mono ?_
              rintro e w'' ⟨v, rfl, ho, hb⟩
              obtain ⟨q, c, e, hi⟩ := ho.nin
              rw [← HAE.out] at e hi
              rw [← HNA.out] at e
              exact ⟨q, c, by rw [e], Mm.hid hi, hb⟩)
            have HC8 : Hid (∀ w', Below w5.heap.size w5 w' → Calls Try.prog 21 #[.pointer (some ⟨pr, 0, none⟩)] w' fun e w'' => ∃ q c, e = .returned (.slice q na c) ∧ Hid (Mm.IIn w'' q A) ∧ Below w'.heap.size w' w'') := Mm.hid (fun w' hb => by
              refine (refAll_any (Mm.hid (HV.out w' hb).m.rd) (by omega)).mono ?_
              rintro e w'' ⟨v, rfl, ho, hb⟩
              obtain ⟨q, c, e, hi⟩ := ho.nin
              rw [← HAE.out] at e hi
              rw [← HNA.out] at e
              exact ⟨q, c, by rw [e], Mm.hid hi, hb⟩)
            have HC10 : Hid (∀ w', Below w5.heap.size w5 w' → Calls Try.prog 22 #[.pointer (some ⟨p, 0, none⟩)] w' fun e w'' => e = .returned (.int .i64 (cnt : Int)) ∧ Below w'.heap.size w' w'') := Mm.hid (fun w' hb => by
              have h := len_q (Mm.hid (HV.out w' hb).q)
              rw [← hcc] at h
              exact h)
            have HC11 : Hid (∀ w', Below w5.heap.size w5 w' → Calls Try.prog 23 #[.pointer (some ⟨pr, 0, none⟩)] w' fun e w'' => e = .returned (.int .i64 (cnt : Int)) ∧ Below w'.heap.size w' w'') := Mm.hid (fun w' hb => by
              refine (refLen_any (Mm.hid (HV.out w' hb).m.rd) (by omega) (by rw [HFL.out]; omega)).mono ?_
              rintro e w'' ⟨rfl, rfl⟩
              exact ⟨by rw [HFL.out, hcc], Below.refl _ _⟩)
            have gB : (b == b) = true := by cases b <;> rfl
            clear hbb hnn hcc hA hna hpk hcn hla hpn
            go_upto_region 23 with fail
            go_cut [202] from 154 to 202 (fun vt wx => vt = .bool false ∧ Hid (Below w5.heap.size w5 wx))
            case first =>
              clear hw5
              have HB0 : Hid (Below w5.heap.size w5 w5.drew) := Mm.hid (Below.refl _ w5).drew
              refine wp_region_held_drew (S := fun w' => w'.cell? ⟨wr.heap.size, 1, none⟩ = some (.string key) ∧ w'.cell? ⟨w4.heap.size, 0, none⟩ = some (.slice q3 n1 c3) ∧ w'.cell? ⟨w4.heap.size, 1, none⟩ = some (.slice q4 n2 c4)) (by kernel_rfl) (HSK.out _ HB0.out) (fun hH => ?_)
              refine wpAnyH_take (i := 0) (oi := ?oz0) (v := ?vz0) ?hiz0 ?hsz0 ?hfz0 ?hrz0 ?hQz0 (Or.inl ⟨?hwz0, ?hyz0⟩) ?hSz0 ?restz0
              case hiz0 => (simp; rfl)
              case hsz0 => kernel_rfl
              case hfz0 => kernel_rfl
              case hrz0 => kernel_rfl
              case hQz0 => exact fun _ _ _ h => h
              case hwz0 => rfl
              case hyz0 => (intro wq hSq; (try dsimp only at hSq); go_simp; (try with_reducible rfl))
              case hSz0 => assumption
              simp only [Act.put, List.setIfInBounds_toArray, List.set_cons_zero, List.set_cons_succ]
              refine wpAnyH_take (i := 1) (oi := ?oz1) (v := ?vz1) ?hiz1 ?hsz1 ?hfz1 ?hrz1 ?hQz1 (Or.inl ⟨?hwz1, ?hyz1⟩) ?hSz1 ?restz1
              case hiz1 => (simp; rfl)
              case hsz1 => kernel_rfl
              case hfz1 => kernel_rfl
              case hrz1 => kernel_rfl
              case hQz1 => exact fun _ _ _ h => h
              case hwz1 => rfl
              case hyz1 => (intro wq hSq; (try dsimp only at hSq); go_simp; (try with_reducible rfl))
              case hSz1 => assumption
              simp only [Act.put, List.setIfInBounds_toArray, List.set_cons_zero, List.set_cons_succ]
              refine wpAnyH_take (i := 2) (oi := ?oz2) (v := ?vz2) ?hiz2 ?hsz2 ?hfz2 ?hrz2 ?hQz2 (Or.inl ⟨?hwz2, ?hyz2⟩) ?hSz2 ?restz2
              case hiz2 => (simp; rfl)
              case hsz2 => kernel_rfl
              case hfz2 => kernel_rfl
              case hrz2 => kernel_rfl
              case hQz2 => exact fun _ _ _ h => h
              case hwz2 => rfl
              case hyz2 => (intro wq hSq; (try dsimp only at hSq); go_simp; (try with_reducible rfl))
              case hSz2 => assumption
              simp only [Act.put, List.setIfInBounds_toArray, List.set_cons_zero, List.set_cons_succ]
              refine wpAnyH_ready (rs := [3]) (by kernel_rfl) (by simp) ?_
              refine AllReadyH.cons (o := ?oz3) ?hiz3 (fun K hK => ?_) AllReadyH.nil
              case hiz3 => (simp; rfl)
              go_simp
              with_reducible refine (HC1.out _ HB0.out).mono ?_
              rintro e w6 ⟨rfl, hb⟩
              have HB6 : Hid (Below w5.heap.size w5 w6) := Mm.hid (HB0.out.trans (hb.mono HB0.out.size))
              clear hb
              go_wp2_with fail
              refine hK.out _ _ (HSK.out _ HB6.out) (fun hHz3 => ?_)
              clear hK K
              refine wpAnyH_take (i := 4) (oi := ?oz4) (v := ?vz4) ?hiz4 ?hsz4 ?hfz4 ?hrz4 ?hQz4 (Or.inl ⟨?hwz4, ?hyz4⟩) ?hSz4 ?restz4
              case hiz4 => (simp; rfl)
              case hsz4 => kernel_rfl
              case hfz4 => kernel_rfl
              case hrz4 => kernel_rfl
              case hQz4 => exact fun _ _ _ h => h
              case hwz4 => rfl
              case hyz4 => (intro wq hSq; (try dsimp only at hSq); go_simp; (try with_reducible rfl))
              case hSz4 => assumption
              simp only [Act.put, List.setIfInBounds_toArray, List.set_cons_zero, List.set_cons_succ]
              refine wpAnyH_take (i := 5) (oi := ?oz5) (v := ?vz5) ?hiz5 ?hsz5 ?hfz5 ?hrz5 ?hQz5 (Or.inl ⟨?hwz5, ?hyz5⟩) ?hSz5 ?restz5
              case hiz5 => (simp; rfl)
              case hsz5 => kernel_rfl
              case hfz5 => kernel_rfl
              case hrz5 => kernel_rfl
              case hQz5 => exact fun _ _ _ h => h
              case hwz5 => rfl
              case hyz5 => (intro wq hSq; (try dsimp only at hSq); go_simp; (try with_reducible rfl))
              case hSz5 => assumption
              simp only [Act.put, List.setIfInBounds_toArray, List.set_cons_zero, List.set_cons_succ]
              refine wpAnyH_take (i := 6) (oi := ?oz6) (v := ?vz6) ?hiz6 ?hsz6 ?hfz6 ?hrz6 ?hQz6 (Or.inl ⟨?hwz6, ?hyz6⟩) ?hSz6 ?restz6
              case hiz6 => (simp; rfl)
              case hsz6 => kernel_rfl
              case hfz6 => kernel_rfl
              case hrz6 => kernel_rfl
              case hQz6 => exact fun _ _ _ h => h
              case hwz6 => rfl
              case hyz6 => (intro wq hSq; (try dsimp only at hSq); go_simp; (try with_reducible rfl))
              case hSz6 => assumption
              simp only [Act.put, List.setIfInBounds_toArray, List.set_cons_zero, List.set_cons_succ]
              refine wpAnyH_take (i := 7) (oi := ?oz7) (v := ?vz7) ?hiz7 ?hsz7 ?hfz7 ?hrz7 ?hQz7 (Or.inl ⟨?hwz7, ?hyz7⟩) ?hSz7 ?restz7
              case hiz7 => (simp; rfl)
              case hsz7 => kernel_rfl
              case hfz7 => kernel_rfl
              case hrz7 => kernel_rfl
              case hQz7 => exact fun _ _ _ h => h
              case hwz7 => rfl
              case hyz7 => (intro wq hSq; (try dsimp only at hSq); go_simp; (try with_reducible rfl))
              case hSz7 => assumption
              simp only [Act.put, List.setIfInBounds_toArray, List.set_cons_zero, List.set_cons_succ]
              refine wpAnyH_take (i := 8) (oi := ?oz8) (v := ?vz8) ?hiz8 ?hsz8 ?hfz8 ?hrz8 ?hQz8 (Or.inl ⟨?hwz8, ?hyz8⟩) ?hSz8 ?restz8
              case hiz8 => (simp; rfl)
              case hsz8 => kernel_rfl
              case hfz8 => kernel_rfl
              case hrz8 => kernel_rfl
              case hQz8 => exact fun _ _ _ h => h
              case hwz8 => rfl
              case hyz8 => (intro wq hSq; (try dsimp only at hSq); go_simp; (try with_reducible rfl))
              case hSz8 => assumption
              simp only [Act.put, List.setIfInBounds_toArray, List.set_cons_zero, List.set_cons_succ]
              refine wpAnyH_ready (rs := [9]) (by kernel_rfl) (by simp) ?_
              refine AllReadyH.cons (o := ?oz9) ?hiz9 (fun K hK => ?_) AllReadyH.nil
              case hiz9 => (simp; rfl)
              go_simp
              with_reducible refine (HC2.out _ HB6.out).mono ?_
              rintro e w7 ⟨rfl, hb⟩
              have HB7 : Hid (Below w5.heap.size w5 w7) := Mm.hid (HB6.out.trans (hb.mono HB6.out.size))
              clear hb
              go_wp2_with fail
              refine hK.out _ _ (HSK.out _ HB7.out) (fun hHz9 => ?_)
              clear hK K
              refine wpAnyH_take (i := 10) (oi := ?oz10) (v := ?vz10) ?hiz10 ?hsz10 ?hfz10 ?hrz10 ?hQz10 (Or.inl ⟨?hwz10, ?hyz10⟩) ?hSz10 ?restz10
              case hiz10 => (simp; rfl)
              case hsz10 => kernel_rfl
              case hfz10 => kernel_rfl
              case hrz10 => kernel_rfl
              case hQz10 => exact fun _ _ _ h => h
              case hwz10 => rfl
              case hyz10 => (intro wq hSq; (try dsimp only at hSq); go_simp; (try with_reducible rfl))
              case hSz10 => assumption
              simp only [Act.put, List.setIfInBounds_toArray, List.set_cons_zero, List.set_cons_succ]
              refine wpAnyH_take (i := 11) (oi := ?oz11) (v := ?vz11) ?hiz11 ?hsz11 ?hfz11 ?hrz11 ?hQz11 (Or.inl ⟨?hwz11, ?hyz11⟩) ?hSz11 ?restz11
              case hiz11 => (simp; rfl)
              case hsz11 => kernel_rfl
              case hfz11 => kernel_rfl
              case hrz11 => kernel_rfl
              case hQz11 => exact fun _ _ _ h => h
              case hwz11 => rfl
              case hyz11 => (intro wq hSq; (try dsimp only at hSq); go_simp; (try with_reducible rfl))
              case hSz11 => assumption
              simp only [Act.put, List.setIfInBounds_toArray, List.set_cons_zero, List.set_cons_succ]
              refine wpAnyH_take (i := 12) (oi := ?oz12) (v := ?vz12) ?hiz12 ?hsz12 ?hfz12 ?hrz12 ?hQz12 (Or.inl ⟨?hwz12, ?hyz12⟩) ?hSz12 ?restz12
              case hiz12 => (simp; rfl)
              case hsz12 => kernel_rfl
              case hfz12 => kernel_rfl
              case hrz12 => kernel_rfl
              case hQz12 => exact fun _ _ _ h => h
              case hwz12 => rfl
              case hyz12 => (intro wq hSq; (try dsimp only at hSq); go_simp; (try with_reducible rfl))
              case hSz12 => assumption
              simp only [Act.put, List.setIfInBounds_toArray, List.set_cons_zero, List.set_cons_succ]
              refine wpAnyH_take (i := 13) (oi := ?oz13) (v := ?vz13) ?hiz13 ?hsz13 ?hfz13 ?hrz13 ?hQz13 (Or.inl ⟨?hwz13, ?hyz13⟩) ?hSz13 ?restz13
              case hiz13 => (simp; rfl)
              case hsz13 => kernel_rfl
              case hfz13 => kernel_rfl
              case hrz13 => kernel_rfl
              case hQz13 => exact fun _ _ _ h => h
              case hwz13 => rfl
              case hyz13 => (intro wq hSq; (try dsimp only at hSq); go_simp; (try with_reducible rfl))
              case hSz13 => assumption
              simp only [Act.put, List.setIfInBounds_toArray, List.set_cons_zero, List.set_cons_succ]
              refine wpAnyH_take (i := 14) (oi := ?oz14) (v := ?vz14) ?hiz14 ?hsz14 ?hfz14 ?hrz14 ?hQz14 (Or.inl ⟨?hwz14, ?hyz14⟩) ?hSz14 ?restz14
              case hiz14 => (simp; rfl)
              case hsz14 => kernel_rfl
              case hfz14 => kernel_rfl
              case hrz14 => kernel_rfl
              case hQz14 => exact fun _ _ _ h => h
              case hwz14 => rfl
              case hyz14 => (intro wq hSq; (try dsimp only at hSq); go_simp; (try with_reducible rfl))
              case hSz14 => assumption
              simp only [Act.put, List.setIfInBounds_toArray, List.set_cons_zero, List.set_cons_succ]
              refine wpAnyH_take (i := 15) (oi := ?oz15) (v := ?vz15) ?hiz15 ?hsz15 ?hfz15 ?hrz15 ?hQz15 (Or.inl ⟨?hwz15, ?hyz15⟩) ?hSz15 ?restz15
              case hiz15 => (simp; rfl)
              case hsz15 => kernel_rfl
              case hfz15 => kernel_rfl
              case hrz15 => kernel_rfl
              case hQz15 => exact fun _ _ _ h => h
              case hwz15 => rfl
              case hyz15 => (intro wq hSq; (try dsimp only at hSq); go_simp; (try with_reducible rfl))
              case hSz15 => assumption
              simp only [Act.put, List.setIfInBounds_toArray, List.set_cons_zero, List.set_cons_succ]
              refine wpAnyH_take (i := 17) (oi := ?oz17) (v := ?vz17) ?hiz17 ?hsz17 ?hfz17 ?hrz17 ?hQz17 (Or.inl ⟨?hwz17, ?hyz17⟩) ?hSz17 ?restz17
              case hiz17 => (simp; rfl)
              case hsz17 => kernel_rfl
              case hfz17 => kernel_rfl
              case hrz17 => kernel_rfl
              case hQz17 => exact fun _ _ _ h => h
              case hwz17 => rfl
              case hyz17 => (intro wq hSq; (try dsimp only at hSq); go_simp; (try with_reducible rfl))
              case hSz17 => assumption
              simp only [Act.put, List.setIfInBounds_toArray, List.set_cons_zero, List.set_cons_succ]
              refine wpAnyH_take (i := 18) (oi := ?oz18) (v := ?vz18) ?hiz18 ?hsz18 ?hfz18 ?hrz18 ?hQz18 (Or.inl ⟨?hwz18, ?hyz18⟩) ?hSz18 ?restz18
              case hiz18 => (simp; rfl)
              case hsz18 => kernel_rfl
              case hfz18 => kernel_rfl
              case hrz18 => kernel_rfl
              case hQz18 => exact fun _ _ _ h => h
              case hwz18 => rfl
              case hyz18 => (intro wq hSq; (try dsimp only at hSq); go_simp; (try with_reducible rfl))
              case hSz18 => assumption
              simp only [Act.put, List.setIfInBounds_toArray, List.set_cons_zero, List.set_cons_succ]
              refine wpAnyH_take (i := 19) (oi := ?oz19) (v := ?vz19) ?hiz19 ?hsz19 ?hfz19 ?hrz19 ?hQz19 (Or.inl ⟨?hwz19, ?hyz19⟩) ?hSz19 ?restz19
              case hiz19 => (simp; rfl)
              case hsz19 => kernel_rfl
              case hfz19 => kernel_rfl
              case hrz19 => kernel_rfl
              case hQz19 => exact fun _ _ _ h => h
              case hwz19 => rfl
              case hyz19 => (intro wq hSq; (try dsimp only at hSq); go_simp; (try with_reducible rfl))
              case hSz19 => assumption
              simp only [Act.put, List.setIfInBounds_toArray, List.set_cons_zero, List.set_cons_succ]
              refine wpAnyH_ready (rs := [16]) (by kernel_rfl) (by simp) ?_
              refine AllReadyH.cons (o := ?oz16) ?hiz16 (fun K hK => ?_) AllReadyH.nil
              case hiz16 => (simp; rfl)
              go_simp
              with_reducible refine (HC3.out _ HB7.out).mono ?_
              rintro e w8 ⟨rfl, hb⟩
              have HB8 : Hid (Below w5.heap.size w5 w8) := Mm.hid (HB7.out.trans (hb.mono HB7.out.size))
              clear hb
              go_wp2_with fail
              refine hK.out _ _ (HSK.out _ HB8.out) (fun hHz16 => ?_)
              clear hK K
              refine wpAnyH_ready (rs := [20]) (by kernel_rfl) (by simp) ?_
              refine AllReadyH.cons (o := ?oz20) ?hiz20 (fun K hK => ?_) AllReadyH.nil
              case hiz20 => (simp; rfl)
              go_simp
              with_reducible refine (HC4.out _ HB8.out).mono ?_
              rintro e w9 ⟨rfl, hb⟩
              have HB9 : Hid (Below w5.heap.size w5 w9) := Mm.hid (HB8.out.trans (hb.mono HB8.out.size))
              clear hb
              go_wp2_with fail
              refine hK.out _ _ (HSK.out _ HB9.out) (fun hHz20 => ?_)
              clear hK K
              refine wpAnyH_take (i := 21) (oi := ?oz21) (v := ?vz21) ?hiz21 ?hsz21 ?hfz21 ?hrz21 ?hQz21 (Or.inl ⟨?hwz21, ?hyz21⟩) ?hSz21 ?restz21
              case hiz21 => (simp; rfl)
              case hsz21 => kernel_rfl
              case hfz21 => kernel_rfl
              case hrz21 => kernel_rfl
              case hQz21 => exact fun _ _ _ h => h
              case hwz21 => rfl
              case hyz21 => (intro wq hSq; (try dsimp only at hSq); go_simp; (try with_reducible rfl))
              case hSz21 => assumption
              simp only [Act.put, List.setIfInBounds_toArray, List.set_cons_zero, List.set_cons_succ]
              refine wpAnyH_take (i := 22) (oi := ?oz22) (v := ?vz22) ?hiz22 ?hsz22 ?hfz22 ?hrz22 ?hQz22 (Or.inl ⟨?hwz22, ?hyz22⟩) ?hSz22 ?restz22
              case hiz22 => (simp; rfl)
              case hsz22 => kernel_rfl
              case hfz22 => kernel_rfl
              case hrz22 => kernel_rfl
              case hQz22 => exact fun _ _ _ h => h
              case hwz22 => rfl
              case hyz22 => (intro wq hSq; (try dsimp only at hSq); go_simp; (try with_reducible rfl))
              case hSz22 => assumption
              simp only [Act.put, List.setIfInBounds_toArray, List.set_cons_zero, List.set_cons_succ]
              refine wpAnyH_take (i := 23) (oi := ?oz23) (v := ?vz23) ?hiz23 ?hsz23 ?hfz23 ?hrz23 ?hQz23 (Or.inl ⟨?hwz23, ?hyz23⟩) ?hSz23 ?restz23
              case hiz23 => (simp; rfl)
              case hsz23 => kernel_rfl
              case hfz23 => kernel_rfl
              case hrz23 => kernel_rfl
              case hQz23 => exact fun _ _ _ h => h
              case hwz23 => rfl
              case hyz23 => (intro wq hSq; (try dsimp only at hSq); go_simp; (try with_reducible rfl))
              case hSz23 => assumption
              simp only [Act.put, List.setIfInBounds_toArray, List.set_cons_zero, List.set_cons_succ]
              refine wpAnyH_take (i := 24) (oi := ?oz24) (v := ?vz24) ?hiz24 ?hsz24 ?hfz24 ?hrz24 ?hQz24 (Or.inl ⟨?hwz24, ?hyz24⟩) ?hSz24 ?restz24
              case hiz24 => (simp; rfl)
              case hsz24 => kernel_rfl
              case hfz24 => kernel_rfl
              case hrz24 => kernel_rfl
              case hQz24 => exact fun _ _ _ h => h
              case hwz24 => rfl
              case hyz24 => (intro wq hSq; (try dsimp only at hSq); go_simp; (try with_reducible rfl))
              case hSz24 => assumption
              simp only [Act.put, List.setIfInBounds_toArray, List.set_cons_zero, List.set_cons_succ]
              refine wpAnyH_take (i := 25) (oi := ?oz25) (v := ?vz25) ?hiz25 ?hsz25 ?hfz25 ?hrz25 ?hQz25 (Or.inl ⟨?hwz25, ?hyz25⟩) ?hSz25 ?restz25
              case hiz25 => (simp; rfl)
              case hsz25 => kernel_rfl
              case hfz25 => kernel_rfl
              case hrz25 => kernel_rfl
              case hQz25 => exact fun _ _ _ h => h
              case hwz25 => rfl
              case hyz25 => (intro wq hSq; (try dsimp only at hSq); go_simp; (try with_reducible rfl))
              case hSz25 => assumption
              simp only [Act.put, List.setIfInBounds_toArray, List.set_cons_zero, List.set_cons_succ]
              refine wpAnyH_take (i := 26) (oi := ?oz26) (v := ?vz26) ?hiz26 ?hsz26 ?hfz26 ?hrz26 ?hQz26 (Or.inl ⟨?hwz26, ?hyz26⟩) ?hSz26 ?restz26
              case hiz26 => (simp; rfl)
              case hsz26 => kernel_rfl
              case hfz26 => kernel_rfl
              case hrz26 => kernel_rfl
              case hQz26 => exact fun _ _ _ h => h
              case hwz26 => rfl
              case hyz26 => (intro wq hSq; (try dsimp only at hSq); go_simp; (try with_reducible rfl))
              case hSz26 => assumption
              simp only [Act.put, List.setIfInBounds_toArray, List.set_cons_zero, List.set_cons_succ]
              refine wpAnyH_take (i := 28) (oi := ?oz28) (v := ?vz28) ?hiz28 ?hsz28 ?hfz28 ?hrz28 ?hQz28 (Or.inl ⟨?hwz28, ?hyz28⟩) ?hSz28 ?restz28
              case hiz28 => (simp; rfl)
              case hsz28 => kernel_rfl
              case hfz28 => kernel_rfl
              case hrz28 => kernel_rfl
              case hQz28 => exact fun _ _ _ h => h
              case hwz28 => rfl
              case hyz28 => (intro wq hSq; (try dsimp only at hSq); go_simp; (try with_reducible rfl))
              case hSz28 => assumption
              simp only [Act.put, List.setIfInBounds_toArray, List.set_cons_zero, List.set_cons_succ]
              refine wpAnyH_take (i := 29) (oi := ?oz29) (v := ?vz29) ?hiz29 ?hsz29 ?hfz29 ?hrz29 ?hQz29 (Or.inl ⟨?hwz29, ?hyz29⟩) ?hSz29 ?restz29
              case hiz29 => (simp; rfl)
              case hsz29 => kernel_rfl
              case hfz29 => kernel_rfl
              case hrz29 => kernel_rfl
              case hQz29 => exact fun _ _ _ h => h
              case hwz29 => rfl
              case hyz29 => (intro wq hSq; (try dsimp only at hSq); go_simp; (try with_reducible rfl))
              case hSz29 => assumption
              simp only [Act.put, List.setIfInBounds_toArray, List.set_cons_zero, List.set_cons_succ]
              refine wpAnyH_take (i := 30) (oi := ?oz30) (v := ?vz30) ?hiz30 ?hsz30 ?hfz30 ?hrz30 ?hQz30 (Or.inl ⟨?hwz30, ?hyz30⟩) ?hSz30 ?restz30
              case hiz30 => (simp; rfl)
              case hsz30 => kernel_rfl
              case hfz30 => kernel_rfl
              case hrz30 => kernel_rfl
              case hQz30 => exact fun _ _ _ h => h
              case hwz30 => rfl
              case hyz30 => (intro wq hSq; (try dsimp only at hSq); go_simp; (try with_reducible rfl))
              case hSz30 => assumption
              simp only [Act.put, List.setIfInBounds_toArray, List.set_cons_zero, List.set_cons_succ]
              refine wpAnyH_ready (rs := [27]) (by kernel_rfl) (by simp) ?_
              refine AllReadyH.cons (o := ?oz27) ?hiz27 (fun K hK => ?_) AllReadyH.nil
              case hiz27 => (simp; rfl)
              go_simp
              with_reducible refine (HC5.out _ HB9.out).mono ?_
              rintro e w10 ⟨rfl, hb⟩
              have HB10 : Hid (Below w5.heap.size w5 w10) := Mm.hid (HB9.out.trans (hb.mono HB9.out.size))
              clear hb
              go_wp2_with fail
              refine hK.out _ _ (HSK.out _ HB10.out) (fun hHz27 => ?_)
              clear hK K
              refine wpAnyH_ready (rs := [31]) (by kernel_rfl) (by simp) ?_
              refine AllReadyH.cons (o := ?oz31) ?hiz31 (fun K hK => ?_) AllReadyH.nil
              case hiz31 => (simp; rfl)
              go_simp
              with_reducible refine (HC6.out _ HB10.out).mono ?_
              rintro e w11 ⟨rfl, hb⟩
              have HB11 : Hid (Below w5.heap.size w5 w11) := Mm.hid (HB10.out.trans (hb.mono HB10.out.size))
              clear hb
              go_wp2_with fail
              refine hK.out _ _ (HSK.out _ HB11.out) (fun hHz31 => ?_)
              clear hK K
              refine wpAnyH_take (i := 32) (oi := ?oz32) (v := ?vz32) ?hiz32 ?hsz32 ?hfz32 ?hrz32 ?hQz32 (Or.inl ⟨?hwz32, ?hyz32⟩) ?hSz32 ?restz32
              case hiz32 => (simp; rfl)
              case hsz32 => kernel_rfl
              case hfz32 => kernel_rfl
              case hrz32 => kernel_rfl
              case hQz32 => exact fun _ _ _ h => h
              case hwz32 => rfl
              case hyz32 => (intro wq hSq; (try dsimp only at hSq); go_simp; (try with_reducible rfl))
              case hSz32 => assumption
              simp only [Act.put, List.setIfInBounds_toArray, List.set_cons_zero, List.set_cons_succ]
              refine wpAnyH_take (i := 33) (oi := ?oz33) (v := ?vz33) ?hiz33 ?hsz33 ?hfz33 ?hrz33 ?hQz33 (Or.inl ⟨?hwz33, ?hyz33⟩) ?hSz33 ?restz33
              case hiz33 => (simp; rfl)
              case hsz33 => kernel_rfl
              case hfz33 => kernel_rfl
              case hrz33 => kernel_rfl
              case hQz33 => exact fun _ _ _ h => h
              case hwz33 => rfl
              case hyz33 => (intro wq hSq; (try dsimp only at hSq); go_simp; (try with_reducible rfl))
              case hSz33 => assumption
              simp only [Act.put, List.setIfInBounds_toArray, List.set_cons_zero, List.set_cons_succ]
              refine wpAnyH_take (i := 34) (oi := ?oz34) (v := ?vz34) ?hiz34 ?hsz34 ?hfz34 ?hrz34 ?hQz34 (Or.inl ⟨?hwz34, ?hyz34⟩) ?hSz34 ?restz34
              case hiz34 => (simp; rfl)
              case hsz34 => kernel_rfl
              case hfz34 => kernel_rfl
              case hrz34 => kernel_rfl
              case hQz34 => exact fun _ _ _ h => h
              case hwz34 => rfl
              case hyz34 => (intro wq hSq; (try dsimp only at hSq); go_simp; (try with_reducible rfl))
              case hSz34 => assumption
              simp only [Act.put, List.setIfInBounds_toArray, List.set_cons_zero, List.set_cons_succ]
              refine wpAnyH_take (i := 35) (oi := ?oz35) (v := ?vz35) ?hiz35 ?hsz35 ?hfz35 ?hrz35 ?hQz35 (Or.inl ⟨?hwz35, ?hyz35⟩) ?hSz35 ?restz35
              case hiz35 => (simp; rfl)
              case hsz35 => kernel_rfl
              case hfz35 => kernel_rfl
              case hrz35 => kernel_rfl
              case hQz35 => exact fun _ _ _ h => h
              case hwz35 => rfl
              case hyz35 => (intro wq hSq; (try dsimp only at hSq); go_simp; (try with_reducible rfl))
              case hSz35 => assumption
              simp only [Act.put, List.setIfInBounds_toArray, List.set_cons_zero, List.set_cons_succ]
              refine wpAnyH_take (i := 37) (oi := ?oz37) (v := ?vz37) ?hiz37 ?hsz37 ?hfz37 ?hrz37 ?hQz37 (Or.inl ⟨?hwz37, ?hyz37⟩) ?hSz37 ?restz37
              case hiz37 => (simp; rfl)
              case hsz37 => kernel_rfl
              case hfz37 => kernel_rfl
              case hrz37 => kernel_rfl
              case hQz37 => exact fun _ _ _ h => h
              case hwz37 => rfl
              case hyz37 => (intro wq hSq; (try dsimp only at hSq); go_simp; (try with_reducible rfl))
              case hSz37 => assumption
              simp only [Act.put, List.setIfInBounds_toArray, List.set_cons_zero, List.set_cons_succ]
              refine wpAnyH_ready (rs := [36]) (by kernel_rfl) (by simp) ?_
              refine AllReadyH.cons (o := ?oz36) ?hiz36 (fun K hK => ?_) AllReadyH.nil
              case hiz36 => (simp; rfl)
              go_simp
              with_reducible refine (HC7.out _ HB11.out).mono ?_
              rintro e w12 ⟨qa, ca, rfl, hia, hb⟩
              have HIa := hia
              clear hia
              have HB12 : Hid (Below w5.heap.size w5 w12) := Mm.hid (HB11.out.trans (hb.mono HB11.out.size))
              clear hb
              go_wp2_with fail
              refine hK.out _ _ (HSK.out _ HB12.out) (fun hHz36 => ?_)
              clear hK K
              refine wpAnyH_ready (rs := [38]) (by kernel_rfl) (by simp) ?_
              refine AllReadyH.cons (o := ?oz38) ?hiz38 (fun K hK => ?_) AllReadyH.nil
              case hiz38 => (simp; rfl)
              go_simp
              with_reducible refine (HC8.out _ HB12.out).mono ?_
              rintro e w13 ⟨qb, cb, rfl, hib, hb⟩
              have HIb := hib
              clear hib
              have HIa2 : Hid (Mm.IIn w13 qa A) := Mm.hid (HIa.out.below hb)
              have HB13 : Hid (Below w5.heap.size w5 w13) := Mm.hid (HB12.out.trans (hb.mono HB12.out.size))
              clear hb
              go_wp2_with fail
              refine hK.out _ _ (HSK.out _ HB13.out) (fun hHz38 => ?_)
              clear hK K
              refine wpAnyH_ready (rs := [39]) (by kernel_rfl) (by simp) ?_
              refine AllReadyH.cons (o := ?oz39) ?hiz39 (fun K hK => ?_) AllReadyH.nil
              case hiz39 => (simp; rfl)
              go_simp
              with_reducible refine (ints_gen A A qa qb na na ca cb _ HIa2 HIb HNA HNA HAN.out).mono ?_
              rintro e w14 ⟨rfl, hb⟩
              rw [decide_eq_true (show A = A from rfl)]
              have HB14 : Hid (Below w5.heap.size w5 w14) := Mm.hid (HB13.out.trans (hb.mono HB13.out.size))
              clear hb
              go_wp2_with fail
              refine hK.out _ _ (HSK.out _ HB14.out) (fun hHz39 => ?_)
              clear hK K
              refine wpAnyH_take (i := 40) (oi := ?oz40) (v := ?vz40) ?hiz40 ?hsz40 ?hfz40 ?hrz40 ?hQz40 (Or.inl ⟨?hwz40, ?hyz40⟩) ?hSz40 ?restz40
              case hiz40 => (simp; rfl)
              case hsz40 => kernel_rfl
              case hfz40 => kernel_rfl
              case hrz40 => kernel_rfl
              case hQz40 => exact fun _ _ _ h => h
              case hwz40 => rfl
              case hyz40 => (intro wq hSq; (try dsimp only at hSq); go_simp; (try with_reducible rfl))
              case hSz40 => assumption
              simp only [Act.put, List.setIfInBounds_toArray, List.set_cons_zero, List.set_cons_succ]
              refine wpAnyH_take (i := 41) (oi := ?oz41) (v := ?vz41) ?hiz41 ?hsz41 ?hfz41 ?hrz41 ?hQz41 (Or.inl ⟨?hwz41, ?hyz41⟩) ?hSz41 ?restz41
              case hiz41 => (simp; rfl)
              case hsz41 => kernel_rfl
              case hfz41 => kernel_rfl
              case hrz41 => kernel_rfl
              case hQz41 => exact fun _ _ _ h => h
              case hwz41 => rfl
              case hyz41 => (intro wq hSq; (try dsimp only at hSq); go_simp; (try with_reducible rfl))
              case hSz41 => assumption
              simp only [Act.put, List.setIfInBounds_toArray, List.set_cons_zero, List.set_cons_succ]
              refine wpAnyH_take (i := 42) (oi := ?oz42) (v := ?vz42) ?hiz42 ?hsz42 ?hfz42 ?hrz42 ?hQz42 (Or.inl ⟨?hwz42, ?hyz42⟩) ?hSz42 ?restz42
              case hiz42 => (simp; rfl)
              case hsz42 => kernel_rfl
              case hfz42 => kernel_rfl
              case hrz42 => kernel_rfl
              case hQz42 => exact fun _ _ _ h => h
              case hwz42 => rfl
              case hyz42 => (intro wq hSq; (try dsimp only at hSq); go_simp; (try with_reducible rfl))
              case hSz42 => assumption
              simp only [Act.put, List.setIfInBounds_toArray, List.set_cons_zero, List.set_cons_succ]
              refine wpAnyH_take (i := 43) (oi := ?oz43) (v := ?vz43) ?hiz43 ?hsz43 ?hfz43 ?hrz43 ?hQz43 (Or.inl ⟨?hwz43, ?hyz43⟩) ?hSz43 ?restz43
              case hiz43 => (simp; rfl)
              case hsz43 => kernel_rfl
              case hfz43 => kernel_rfl
              case hrz43 => kernel_rfl
              case hQz43 => exact fun _ _ _ h => h
              case hwz43 => rfl
              case hyz43 => (intro wq hSq; (try dsimp only at hSq); go_simp; (try with_reducible rfl))
              case hSz43 => assumption
              simp only [Act.put, List.setIfInBounds_toArray, List.set_cons_zero, List.set_cons_succ]
              refine wpAnyH_take (i := 45) (oi := ?oz45) (v := ?vz45) ?hiz45 ?hsz45 ?hfz45 ?hrz45 ?hQz45 (Or.inl ⟨?hwz45, ?hyz45⟩) ?hSz45 ?restz45
              case hiz45 => (simp; rfl)
              case hsz45 => kernel_rfl
              case hfz45 => kernel_rfl
              case hrz45 => kernel_rfl
              case hQz45 => exact fun _ _ _ h => h
              case hwz45 => rfl
              case hyz45 => (intro wq hSq; (try dsimp only at hSq); go_simp; (try with_reducible rfl))
              case hSz45 => assumption
              simp only [Act.put, List.setIfInBounds_toArray, List.set_cons_zero, List.set_cons_succ]
              refine wpAnyH_ready (rs := [44]) (by kernel_rfl) (by simp) ?_
              refine AllReadyH.cons (o := ?oz44) ?hiz44 (fun K hK => ?_) AllReadyH.nil
              case hiz44 => (simp; rfl)
              go_simp
              with_reducible refine (HC10.out _ HB14.out).mono ?_
              rintro e w15 ⟨rfl, hb⟩
              have HB15 : Hid (Below w5.heap.size w5 w15) := Mm.hid (HB14.out.trans (hb.mono HB14.out.size))
              clear hb
              go_wp2_with fail
              refine hK.out _ _ (HSK.out _ HB15.out) (fun hHz44 => ?_)
              clear hK K
              refine wpAnyH_ready (rs := [46]) (by kernel_rfl) (by simp) ?_
              refine AllReadyH.cons (o := ?oz46) ?hiz46 (fun K hK => ?_) AllReadyH.nil
              case hiz46 => (simp; rfl)
              go_simp
              with_reducible refine (HC11.out _ HB15.out).mono ?_
              rintro e w16 ⟨rfl, hb⟩
              have HB16 : Hid (Below w5.heap.size w5 w16) := Mm.hid (HB15.out.trans (hb.mono HB15.out.size))
              clear hb
              go_wp2_with fail
              refine hK.out _ _ (HSK.out _ HB16.out) (fun hHz46 => ?_)
              clear hK K
              refine wpAnyH_take (i := 47) (oi := ?oz47) (v := ?vz47) ?hiz47 ?hsz47 ?hfz47 ?hrz47 ?hQz47 (Or.inl ⟨?hwz47, ?hyz47⟩) ?hSz47 ?restz47
              case hiz47 => (simp; rfl)
              case hsz47 => kernel_rfl
              case hfz47 => kernel_rfl
              case hrz47 => kernel_rfl
              case hQz47 => exact fun _ _ _ h => h
              case hwz47 => rfl
              case hyz47 => (intro wq hSq; (try dsimp only at hSq); go_simp; (try with_reducible rfl))
              case hSz47 => assumption
              simp only [Act.put, List.setIfInBounds_toArray, List.set_cons_zero, List.set_cons_succ]
              refine wpAnyH_take (i := 48) (oi := ?oz48) (v := ?vz48) ?hiz48 ?hsz48 ?hfz48 ?hrz48 ?hQz48 (Or.inl ⟨?hwz48, ?hyz48⟩) ?hSz48 ?restz48
              case hiz48 => (simp; rfl)
              case hsz48 => kernel_rfl
              case hfz48 => kernel_rfl
              case hrz48 => kernel_rfl
              case hQz48 => exact fun _ _ _ h => h
              case hwz48 => rfl
              case hyz48 => (intro wq hSq; (try dsimp only at hSq); go_simp; (try with_reducible rfl))
              case hSz48 => assumption
              simp only [Act.put, List.setIfInBounds_toArray, List.set_cons_zero, List.set_cons_succ]
              refine wpAnyH_done (by kernel_rfl) ?_ _
              go_wp2_with fail
              go_meet
              case rel => exact ⟨rfl, HB16⟩
            case rest =>
              obtain ⟨h202, hwx⟩ := hcut
              subst h202
              have HBX9 := hwx
              clear hwx hw5
              go_wp2_with fail
              exact ⟨⟨k + 1, by omega, by go_num, Mm.hid ⟨s, tag, r, cr, kf, HV.out _ HBX9.out⟩⟩, by simp [RowKit.intOf]; omega⟩
        ·
          have he : k = l := by omega
          subst he
          have HIV : Hid (Lf.Inv s) := Mm.hid HJ.out.q.2.1
          have hpn : s.pgs.length ≤ 1000 := by have := HJ.out.q.2.1.ln; have := HJ.out.q.2.2.1; omega
          obtain ⟨n, hnn⟩ : ∃ n, n = s.pgs.length := ⟨_, rfl⟩
          have HN := Mm.hid hnn
          have HROW : Hid (∀ w', Below wr.heap.size wr w' → w'.cell? ⟨pr, 0, none⟩ = some (.slice (some ⟨r, 0, none⟩) n cr) ∧ ∀ (i : Nat) Q, s.pgs[i]? = some Q → w'.cell? ⟨r, i * 4, none⟩ = some (.int .i64 (Q.n : Int)) ∧ w'.cell? ⟨r, i * 4 + 3, none⟩ = some (kf Q.n)) := Mm.hid (fun w' hb => by
            have h := (HJ.out.below hb).m.rd
            refine ⟨by rw [HN.out]; exact h.c0, fun i Q hQ => ?_⟩
            obtain ⟨x0, -, -, x3⟩ := h.at_ i Q hQ
            exact ⟨x0, x3⟩)
          rw [← hnn] at hpn
          clear hnn hlt
          go_wp2_with fail
          go_loopw [22] (fun vi wy => ∃ i : Nat, i ≤ n ∧ vi = .int .i64 (i : Int) ∧ Hid (Below wr.heap.size wr wy)) (fun vi _ => n - (RowKit.intOf vi).toNat)
          case atStart => exact ⟨0, Nat.zero_le _, rfl, Mm.hid (Below.refl _ _)⟩
          case round =>
            obtain ⟨i, hi, rfl, HB⟩ := hrel
            rename World => wy
            obtain ⟨c0, drow⟩ := HROW.out wy HB.out
            by_cases hin : i < n
            · obtain ⟨Q, hQ⟩ : ∃ Q, s.pgs[i]? = some Q := ⟨s.pgs[i]'(by rw [← HN.out]; exact hin), List.getElem?_eq_getElem _⟩
              have HQ := Mm.hid hQ
              obtain ⟨qk, ck, ek, -, SK9⟩ := Lf.own_sin ((HJ.out.below HB.out).m.ks Q (List.mem_of_getElem? hQ)).1
              obtain ⟨nk, hnk⟩ : ∃ nk, nk = Q.ks.length := ⟨_, rfl⟩
              rw [← hnk] at ek
              have HNK := Mm.hid hnk
              have HEK := Mm.hid ek
              have HSQ : Hid (Lf.SIn wy qk Q.ks) := Mm.hid SK9
              have HKL : Hid (Q.ks.length ≤ 1000000) := Mm.hid (by have := (HIV.out.ks Q (List.mem_of_getElem? hQ)).2.2; have := HIV.out.f2; omega)
              have HSK : Hid (∀ w', Below wy.heap.size wy w' → w'.cell? ⟨pr, 0, none⟩ = some (.slice (some ⟨r, 0, none⟩) n cr) ∧ w'.cell? ⟨r, i * 4, none⟩ = some (.int .i64 (Q.n : Int)) ∧ w'.cell? ⟨r, i * 4 + 3, none⟩ = some (.slice qk nk ck)) := Mm.hid (fun w' hb => by
                obtain ⟨x0, x1⟩ := HROW.out w' (HB.out.trans (hb.mono HB.out.size))
                obtain ⟨x2, x3⟩ := x1 i Q HQ.out
                exact ⟨x0, x2, by rw [x3, HEK.out]⟩)
              have HC1 : Hid (∀ w', Below wy.heap.size wy w' → Calls Try.prog 24 #[.pointer (some ⟨p, 0, none⟩), .int .i64 (Q.n : Int)] w' fun e w'' => ∃ q c, e = .returned (.slice q nk c) ∧ Hid (Lf.SIn w'' q Q.ks) ∧ Below w'.heap.size w' w'') := Mm.hid (fun w' hb => by
                refine (keys_q (Mm.hid (HJ.out.below (HB.out.trans (hb.mono HB.out.size))).q) (by omega) (Q.n : Int)).mono ?_
                rintro e w'' ⟨v, rfl, ho, hb⟩
                rw [Lf.keys_of HIV.out HQ.out] at ho
                obtain ⟨q, c, e, -, h9⟩ := Lf.own_sin ho
                rw [← HNK.out] at e
                exact ⟨q, c, by rw [e], Mm.hid h9, hb⟩)
              have g1 : (0 : Int) ≤ (i : Int) := by omega
              have g2 : (i : Int) < (n : Int) := by omega
              clear hQ ek SK9 hnk drow
              go_upto_region 28 with fail
              clear c0
              go_cut [231] from 212 to 231 (fun vt wx => vt = .bool false ∧ Hid (Below wy.heap.size wy wx))
              case first =>
                have HB0 : Hid (Below wy.heap.size wy wy.drew) := Mm.hid (Below.refl _ wy).drew
                go_region_held3 (fun w' => w'.cell? ⟨pr, 0, none⟩ = some (.slice (some ⟨r, 0, none⟩) n cr) ∧ w'.cell? ⟨r, i * 4, none⟩ = some (.int .i64 (Q.n : Int)) ∧ w'.cell? ⟨r, i * 4 + 3, none⟩ = some (.slice qk nk ck)) (first | (with_reducible exact HSK.out _ HB7.out) | (with_reducible exact HSK.out _ HB6.out) | (with_reducible exact HSK.out _ HB0.out)) ((first
                  | (go_at_call 24
                     refine (HC1.out _ HB0.out).mono ?_
                     rintro e w6 ⟨q6, c6, rfl, h6, hb⟩
                     have HS6 := h6
                     have HB6 : Hid (Below wy.heap.size wy w6) := Mm.hid (HB0.out.trans (hb.mono HB0.out.size))
                     clear hb h6)
                  | (go_at_call 14
                     refine (texts_gen Q.ks Q.ks q6 qk nk nk c6 ck _ HS6 (Mm.hid (HSQ.out.below HB6.out)) HNK HNK HKL.out).mono ?_
                     rintro e w7 ⟨rfl, hb⟩
                     rw [decide_eq_true (show Q.ks = Q.ks from rfl)]
                     have HB7 : Hid (Below wy.heap.size wy w7) := Mm.hid (HB6.out.trans (hb.mono HB6.out.size))
                     clear hb)))
                all_goals
                  go_wp2_with fail
                  go_meet
                  case rel => exact ⟨rfl, HB7⟩
              case rest =>
                obtain ⟨h231, hwx⟩ := hcut
                subst h231
                have HBX9 := hwx
                clear hwx
                go_wp2_with fail
                exact ⟨⟨i + 1, by omega, by go_num, Mm.hid (HB.out.trans (HBX9.out.mono HB.out.size))⟩, by simp [RowKit.intOf]; omega⟩
            · have he : i = n := by omega
              subst he
              have HJY := Mm.hid (HJ.out.below HB.out)
              clear drow
              go_wp2_with fail
              refine (keys_q (Mm.hid HJY.out.q) (by omega) (-1)).mono ?_
              rintro e w6 ⟨v6, rfl, ho, hb⟩
              rw [Lf.keys_m1] at ho
              obtain ⟨q6, c6, e6, -, -⟩ := Lf.own_sin ho
              have e6' : v6 = .slice q6 0 c6 := e6
              subst e6'
              have HB6 : Hid (Below W.heap.size W w6) := Mm.hid (HJY.out.bel.trans (hb.mono HJY.out.bel.size))
              clear ho e6 hb
              go_wp2_with fail
              refine (wakes_any _).mono ?_
              rintro e w8 ⟨rfl, hb8⟩
              have HB8 : Hid (Below W.heap.size W w8) := Mm.hid (HB6.out.trans (hb8.mono HB6.out.size))
              clear hb8
              go_wp2_with fail
              go_ret
              exact ⟨rfl, HB8.out⟩
  ·
    have hf : fan < 2 ∨ 64 < fan := by omega
    clear hfan
    go_enter Try.func3, Try.ntmps3
    go_wp2_with fail
    refine (new_err fan hf W).mono ?_
    rintro e w1 ⟨rfl, rfl⟩
    go_wp2_with fail
    refine (refNew_err fan hf w1).mono ?_
    rintro e w2 ⟨rfl, rfl⟩
    go_wp2_with fail
    refine (wakes_any _).mono ?_
    rintro e w4 ⟨rfl, hb4⟩
    have HB4 := Mm.hid hb4
    clear hb4
    go_wp2_with fail
    go_ret
    exact ⟨rfl, HB4.out⟩
end Go.Proofs.Ytjnaafgiokdcbaa
