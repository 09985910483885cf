/- The reference's index: New, Has, span. -/
import Derived.Test.YtjnaafgiokdcbaaGreatDoorI8
import Derived.Test.YtjnaafgiokdcbaaGreatDoorHP
import Derived.Test.YtjnaafgiokdcbaaGreatDoorHS
import Derived.Test.YtjnaafgiokdcbaaGreatDoorGI
import Derived.Test.YtjnaafgiokdcbaaGreatDoorGQ
namespace Go.Proofs.YtjnaafgiokdcbaaGreatDoor
open Go.RowKit
attribute [local go_sem] Fl.run_store_float
attribute [local go_sem ↓] Go.wp_at_zero Go.wp_at_succ

namespace Ix
open Vl Ky
/-- What the reference reads. -/
structure Rx (w : World) (qb pr r c : Nat) (kf : Nat → Value) (s : Lf.S) : Prop where
  rd : Lf.Rd w pr r c kf s
  bx : w.heap[qb]? = some (.cells #[.pointer (some ⟨pr, 0, none⟩)] 57 (0, 0))
structure Sz (s : Lf.S) : Prop where
  n : s.pgs.length ≤ 100000
  k : ∀ P ∈ s.pgs, P.ks.length ≤ 100000
  f : (Lf.flat s.pgs).length ≤ 100000
  i : Lf.Inv s
variable {w w' : World} {qb pr r c : Nat} {kf : Nat → Value} {s : Lf.S}
theorem Rx.below (H : Rx w qb pr r c kf s) (hb : Below w.heap.size w w') : Rx w' qb pr r c kf s := ⟨H.rd.below hb, (hb.block _ (Mm.heapLt H.bx)).trans H.bx⟩
theorem Rx.cell (H : Rx w qb pr r c kf s) : w.cell? ⟨qb, 0, none⟩ = some (.pointer (some ⟨pr, 0, none⟩)) := Mm.cellOf H.bx rfl
def RW1 (w : World) (fan : Nat) : World := (Lf.RW w fan).alloc (.cells #[.pointer (some ⟨w.heap.size + 1, 0, none⟩)] 57)
theorem RW_size (w : World) (fan : Nat) : (Lf.RW w fan).heap.size = w.heap.size + 2 := by unfold Lf.RW; simp
theorem set_at0 {w : World} {b : Nat} {x y v : Value} {t : TypeId} (h : w.heap[b]? = some (.cells #[x, y] t (0, 0))) : (w.setCell ⟨b, 0, none⟩ v).heap[b]? = some (.cells #[v, y] t (0, 0)) := by
  obtain ⟨hlt, hk⟩ := Array.getElem?_eq_some_iff.1 h
  show (w.heap.modify b _)[b]? = _
  rw [Array.getElem?_eq_getElem (by rw [Array.size_modify]; exact hlt), Array.getElem_modify_self, hk]
  rfl
theorem pN_tid (o : Option (V × Nat)) : pN o = ((tidV o : Nat) : Int) := by cases o <;> rfl
end Ix

set_option maxRecDepth 100000 in
set_option maxHeartbeats 2000000 in
theorem refNewI_any (fan : Nat) (h1 : 2 ≤ fan) (h2 : fan ≤ 64) (w : World) : Calls Tryz.prog 8 #[.int .i64 (fan : Int)] w fun e w' => e = .returned (.tuple #[.pointer (some ⟨w.heap.size + 2, 0, none⟩), .int .i64 0]) ∧ w' = Ix.RW1 w fan := by
  have HN := Mm.hid (refNew_any fan h1 h2 w)
  have HS := Mm.hid (Ix.RW_size w fan)
  go_enter Tryz.func8, Tryz.ntmps8
  go_wp2_with fail
  refine HN.out.mono ?_
  rintro e w1 ⟨rfl, rfl⟩
  go_wp2_with fail
  go_ret2
  rw [HS.out]
  exact ⟨rfl, rfl⟩

set_option maxRecDepth 100000 in
set_option maxHeartbeats 2000000 in
theorem refNewI_err (fan : Int) (h : fan < 2 ∨ 64 < fan) (w : World) : Calls Tryz.prog 8 #[.int .i64 fan] w fun e w' => e = .returned (.tuple #[.pointer none, .int .i64 1]) ∧ w' = w := by
  have HN := Mm.hid (refNew_err fan h w)
  go_enter Tryz.func8, Tryz.ntmps8
  go_wp2_with fail
  refine HN.out.mono ?_
  rintro e w1 ⟨rfl, rfl⟩
  go_wp2_with fail
  go_ret2
  exact ⟨rfl, rfl⟩

section
variable {w : World} {qb pr r c : Nat} {kf : Nat → Value} {s : Lf.S}

set_option maxRecDepth 100000 in
set_option maxHeartbeats 2000000 in
theorem refHasI_any (H : Hid (Ix.Rx w qb pr r c kf s)) (hz : Hid (Ix.Sz s)) (v : Vl.V) (n : Int) (hM : Ky.Mx w) (hv : Ky.In v) :
    Calls Tryz.prog 21 #[.pointer (some ⟨qb, 0, none⟩), .agg #[.int .i64 v.k, .int .i64 v.n, .float .f64 v.f, .string v.s], .int .i64 n] w fun e w' => e = .returned (.bool (Ix.hasE s v n)) ∧ Below w.heap.size w w' := by
  have HC := Mm.hid (refEntry_any v n _ (hM.below (Vl.bal (Below.refl _ _) (.cells #[.int .i64 v.k, .int .i64 v.n, .float .f64 v.f, .string v.s] 34))) hv)
  unfold Ix.hasE
  rcases Ix.entE_cases v n with h0 | h0 | h0
  · rw [h0] at HC ⊢
    obtain ⟨L, P, R, hs⟩ := Lf.spl_ex hz.out.i (Ky.entB v n)
    rw [show decide ((0 : Int) = 0) = true from rfl, Bool.true_and, Lf.leaf_spl hs]
    have HSP := Mm.hid hs
    clear hs
    go_enter Tryz.func21, Tryz.ntmps21
    go_wp2_with fail
    refine HC.out.mono ?_
    rintro e w1 ⟨rfl, hb⟩
    have HB := Mm.hid (Vl.btr (Vl.bal (Below.refl w.heap.size w) _) hb)
    have HQ := Mm.hid (H.out.below HB.out)
    have hc := HQ.out.cell
    have HH := Mm.hid (refHas_any (Mm.hid HQ.out.rd) HSP hz.out.n (hz.out.k P HSP.out.mem))
    clear hb HC
    go_wp2_with fail
    refine HH.out.mono ?_
    rintro e w2 ⟨rfl, hb2⟩
    have HB2 := Mm.hid (Vl.btr HB.out hb2)
    clear hb2
    go_wp2_with fail
    go_ret
    exact ⟨by simp, HB2.out⟩
  all_goals
    rw [h0] at HC ⊢
    go_enter Tryz.func21, Tryz.ntmps21
    go_wp2_with fail
    refine HC.out.mono ?_
    rintro e w1 ⟨rfl, hb⟩
    have HB := Mm.hid (Vl.btr (Vl.bal (Below.refl w.heap.size w) _) hb)
    clear hb HC
    go_wp2_with fail
    go_ret
    exact ⟨by simp, HB.out⟩

set_option maxRecDepth 100000 in
set_option maxHeartbeats 4000000 in
theorem refSpan_any (H : Hid (Ix.Rx w qb pr r c kf s)) (hz : Hid (Ix.Sz s)) (frm tto : ByteArray) :
    Calls Tryz.prog 43 #[.pointer (some ⟨qb, 0, none⟩), .string frm, .string tto] w fun e w' => ∃ p1 n1 c1 p2 n2 c2, e = .returned (.agg #[.slice p1 n1 c1, .slice p2 n2 c2]) ∧ Ix.Tw w w' (.slice p1 n1 c1) (.slice p2 n2 c2) ((Lf.spanK s frm tto).map Ix.tidOf) (Lf.spanL s frm tto) := by
  have HQ := Mm.hid (H.out.below ((Below.refl _ w).alloc (Nat.le_refl _) (.cells #[.slice none 0 0, .slice none 0 0] 48)))
  have hc := HQ.out.cell
  have hr := refRange_any (Mm.hid HQ.out.rd) (Mm.hid hz.out.i) hz.out.n hz.out.k hz.out.f frm tto
  have hK1 : (Lf.spanK s frm tto).length ≤ 100000 := Nat.le_trans (Ix.span_sub hz.out.i frm tto).length_le hz.out.f
  have hK2 : ∀ k ∈ Lf.spanK s frm tto, k.size ≤ 50000 := fun k hk => by
    have := Ix.spanK_size hz.out.i hk
    omega
  have HK := Mm.hid (And.intro hK1 hK2)
  generalize Lf.spanK s frm tto = K at hr HK ⊢
  generalize Lf.spanL s frm tto = Lv at hr ⊢
  have HR := Mm.hid hr
  clear hr hK1 hK2
  obtain ⟨w0, hw0⟩ : ∃ x, x = w.alloc (.cells #[.slice none 0 0, .slice none 0 0] 48) := ⟨_, rfl⟩
  have HB0 : Hid (Below w.heap.size w w0 ∧ w.heap.size < w0.heap.size) := Mm.hid (by rw [hw0]; exact ⟨(Below.refl _ _).alloc (Nat.le_refl _) _, by simp⟩)
  have HA0 : Hid (w0.heap[w.heap.size]? = some (.cells #[.slice none 0 0, .slice none 0 0] 48 (0, 0))) := Mm.hid (by rw [hw0]; exact Mm.newAt _ _ rfl)
  go_enter Tryz.func43, Tryz.ntmps43
  rw [← hw0] at HR hc
  go_upto_region 1 with fail
  obtain ⟨ga, hga⟩ : ∃ x, x = w.heap.size := ⟨_, rfl⟩
  rw [← hga]
  rw [← hga] at HA0
  have HGA := Mm.hid hga
  try rw [← hw0]
  clear hw0 HQ hga
  go_wp2_with fail
  refine HR.out.mono ?_
  rintro e w1 ⟨v1, v2, rfl, hT⟩
  obtain ⟨q1, c1, e1, -, S1⟩ := Lf.own_sin hT.o1
  obtain ⟨p2, c2, e2, -, -, -, -⟩ := hT.o2.shape
  obtain ⟨nK, hnK⟩ : ∃ n, n = K.length := ⟨_, rfl⟩
  obtain ⟨nL, hnL⟩ : ∃ n, n = (Mm.nts Lv).length := ⟨_, rfl⟩
  rw [← hnK] at e1
  rw [← hnL] at e2
  subst e1 e2
  have HNK := Mm.hid hnK
  have HT := Mm.hid hT
  have HS1 : Hid (Lf.SIn w1 q1 K) := Mm.hid S1
  clear hT S1 hnK hnL HR hc
  have HB1 : Hid (Below w.heap.size w w1 ∧ w0.heap.size ≤ w1.heap.size) := Mm.hid ⟨HB0.out.1.trans (HT.out.bel.mono HB0.out.1.size), HT.out.bel.size⟩
  obtain ⟨gb, hgb⟩ : ∃ x, x = w1.heap.size := ⟨_, rfl⟩
  obtain ⟨gc, hgc⟩ : ∃ x, x = w1.heap.size + 1 := ⟨_, rfl⟩
  obtain ⟨wb, hwb⟩ : ∃ x, w1.alloc (.cells #[.slice q1 nK c1, .slice p2 nL c2] 115) = x := ⟨_, rfl⟩
  obtain ⟨wc, hwc⟩ : ∃ x, wb.alloc (.cells #[.slice none 0 0, .slice p2 nL c2] 48) = x := ⟨_, rfl⟩
  have sb : wb.heap.size = w1.heap.size + 1 := by rw [← hwb]; simp
  have hB1 : Below w1.heap.size w1 wc := by rw [← hwc, ← hwb]; exact ((Below.refl _ _).alloc (Nat.le_refl _) _).alloc (by simp) _
  have HC3 : Hid ((w1.heap.size = gb ∧ w1.heap.size + 1 = gc ∧ wc.heap.size = gc + 1) ∧ wc.heap[gb]? = some (.cells #[.slice q1 nK c1, .slice p2 nL c2] 115 (0, 0)) ∧ wc.heap[gc]? = some (.cells #[.slice none 0 0, .slice p2 nL c2] 48 (0, 0)) ∧ wc.heap[ga]? = some (.cells #[.slice none 0 0, .slice none 0 0] 48 (0, 0)) ∧ Below w.heap.size w wc ∧ Lf.SIn wc q1 K ∧ Mm.Own wc w0.heap.size 3 (.slice p2 nL c2) (Mm.nts Lv)) := Mm.hid ⟨⟨hgb.symm, hgc.symm, by rw [← hwc]; simp; omega⟩, by rw [← hwc]; exact (Mm.oldAt _ _ (by omega)).trans (by rw [← hwb]; exact Mm.newAt _ _ hgb), by rw [← hwc]; exact Mm.newAt _ _ (by omega), (hB1.block _ (by have := HB0.out.2; have := HB1.out.2; have := HGA.out; omega)).trans ((HT.out.bel.block _ (by rw [HGA.out]; exact HB0.out.2)).trans HA0.out), HB1.out.1.trans (hB1.mono HB1.out.1.size), HS1.out.below hB1, HT.out.o2.below hB1⟩
  have HSB : Hid (∀ (j : Nat) y, K[j]? = some y → ∃ b o, q1 = some ⟨b, o, none⟩ ∧ b < w1.heap.size ∧ wc.cell? ⟨b, o + j, none⟩ = some (.string y)) := Mm.hid (fun j y hy => by
    obtain ⟨b, o, h1, h2, h3⟩ := HS1.out j y hy
    exact ⟨b, o, h1, h2, (Mm.belAt hB1 _ h2).trans h3⟩)
  have HLT : Hid (ga < w1.heap.size ∧ ∀ g, (Value.slice p2 nL c2).ownBlock = some g → g < w1.heap.size ∧ w0.heap.size ≤ g) := Mm.hid ⟨by have := HB0.out.2; have := HB1.out.2; have := HGA.out; omega, fun g hg => HT.out.o2.lt hg⟩
  have k0 : wb.cell? ⟨gb, 1, none⟩ = some (.slice p2 nL c2) := Mm.cellOf (by rw [← hwb]; exact Mm.newAt _ _ hgb) rfl
  clear hB1 HS1 HB1 HT
  rw [← hgb] at sb
  go_upto_region 2 with fail
  rw [← hgb]
  try rw [hwb]
  clear hgb hwb
  go_upto_region 3 with fail
  have hgg : gb + 1 = gc := by have := HC3.out.1; omega
  rw [hgg]
  try rw [hwc]
  clear hwc sb hgg k0 hgc
  go_wp2_with fail
  go_loopw [9] (fun vi wr => ∃ (j : Nat) (pT : Option Addr) (nT cT : Nat), j ≤ nK ∧ vi = .int .i64 (j : Int) ∧ Hid (wr.heap[gc]? = some (.cells #[.slice pT nT cT, .slice p2 nL c2] 48 (0, 0)) ∧ Mm.Own wr wc.heap.size 3 (.slice pT nT cT) (Mm.nts ((K.take j).map Ix.tidOf)) ∧ Ix.Kq wc.heap.size gc wc wr)) (fun vi _ => nK - (RowKit.intOf vi).toNat)
  case atStart => exact ⟨0, none, 0, 0, Nat.zero_le _, rfl, Mm.hid ⟨HC3.out.2.2.1, Mm.Own.nil _ _ _, Ix.Kq.refl _ _ _⟩⟩
  case round =>
    obtain ⟨j, pT, nT, cT, hj, rfl, HR⟩ := hrel
    have HSz : Hid (gc < wc.heap.size ∧ gb < wc.heap.size ∧ gb ≠ gc ∧ wc.heap.size ≤ wr.heap.size ∧ ga < wc.heap.size ∧ ga ≠ gc) := Mm.hid (by
      have h1 := HC3.out.1; have h2 := HR.out.2.2.size; have h3 := HLT.out.1
      omega)
    have b0 : wr.cell? ⟨gb, 0, none⟩ = some (.slice q1 nK c1) := Mm.cellOf ((HR.out.2.2.block gb HSz.out.2.1 HSz.out.2.2.1).trans HC3.out.2.1) rfl
    by_cases hlt : j < nK
    · obtain ⟨x, hx⟩ : ∃ x, K[j]? = some x := ⟨K[j]'(by rw [← HNK.out]; exact hlt), List.getElem?_eq_getElem _⟩
      obtain ⟨b, o, e1, hbl, hcell⟩ := HSB.out j x hx
      subst e1
      have d0 : wr.cell? ⟨b, o + j, none⟩ = some (.string x) := by
        rw [← hcell]
        have h5 : wr.heap[b]? = wc.heap[b]? := HR.out.2.2.block b (by have := HC3.out.1; omega) (by have := HC3.out.1; omega)
        simp only [World.cell?, h5]
      have HTK : Hid ((K.take (j + 1)).map Ix.tidOf = (K.take j).map Ix.tidOf ++ [Ix.tidOf x]) := Mm.hid (by rw [List.take_add_one, hx]; simp)
      have HXS : Hid (x.size ≤ 50000) := Mm.hid (HK.out.2 x (List.mem_of_getElem? hx))
      have g1 : (0 : Int) ≤ (j : Int) := by omega
      have g2 : (j : Int) < (nK : Int) := by omega
      have hkk : nK ≤ 100000 := by rw [HNK.out]; exact HK.out.1
      clear hx hcell
      go_wp2_with fail
      refine (refSplit_any x _ HXS.out).mono ?_
      rintro e w5 ⟨o5, rfl, ho, hb5⟩
      unfold Ky.gotT
      rw [Ix.pN_tid, ← Ix.tid_is ho]
      have HB5 := Mm.hid hb5
      obtain ⟨g5, hg5⟩ : ∃ y, y = w5.heap.size := ⟨_, rfl⟩
      obtain ⟨w6, hw6⟩ : ∃ y, w5.alloc (.cells #[.int .i64 (Ky.pV o5).k, .int .i64 (Ky.pV o5).n, .float .f64 (Ky.pV o5).f, .string (Ky.pV o5).s, .int .i64 ((Ix.tidOf x : Nat) : Int)] 118) = y := ⟨_, rfl⟩
      have HB6 : Hid (Below wr.heap.size wr w6) := Mm.hid (by rw [← hw6]; exact hb5.alloc hb5.size _)
      have i4 : w6.cell? ⟨g5, 4, none⟩ = some (.int .i64 ((Ix.tidOf x : Nat) : Int)) := Mm.cellOf (by rw [← hw6]; exact Mm.newAt _ _ hg5) rfl
      clear ho hb5 d0 b0
      go_upto_region 7 with fail
      try rw [← hg5]
      try rw [hw6]
      clear hw6 hg5
      have hq6 : Ix.Kq wc.heap.size gc wr w6 := Ix.Kq.below HB6.out HSz.out.2.2.2.1
      have HC6 : Hid (w6.heap[gc]? = some (.cells #[.slice pT nT cT, .slice p2 nL c2] 48 (0, 0)) ∧ Mm.Own w6 wc.heap.size 3 (.slice pT nT cT) (Mm.nts ((K.take j).map Ix.tidOf)) ∧ Ix.Kq wc.heap.size gc wc w6 ∧ wc.heap.size ≤ w6.heap.size) := Mm.hid ⟨(HB6.out.block _ (Nat.lt_of_lt_of_le HSz.out.1 HSz.out.2.2.2.1)).trans HR.out.1, HR.out.2.1.below HB6.out, HR.out.2.2.trans hq6, Nat.le_trans HSz.out.2.2.2.1 HB6.out.size⟩
      have HLN : Hid ((Mm.nts ((K.take j).map Ix.tidOf)).length < 1000000) := Mm.hid (by rw [Mm.nts_len, List.length_map, List.length_take]; omega)
      have y0 : w6.cell? ⟨gc, 0, none⟩ = some (.slice pT nT cT) := Mm.cellOf HC6.out.1 rfl
      clear hq6
      go_wp2_with (at_builtin; refine Mm.appI w6 rfl _ _ rfl wc.heap.size (.slice pT nT cT) ((Ix.tidOf x : Nat) : Int) _ rfl HC6.out.2.1 _ rfl (by simp) HLN.out HC6.out.2.2.2 ?_; intro v7 w7 h1 h2 h3; have hk7 := Ix.Kq.grown (n := wc.heap.size) (B0 := gc) h2 HC6.out.2.2.2 (fun g hg => (HC6.out.2.1.lt hg).2); have hz7 : w7.heap[gc]? = some (.cells #[.slice pT nT cT, .slice p2 nL c2] 48 (0, 0)) := (h2.block _ (Mm.heapLt HC6.out.1) (fun e => by have := (HC6.out.2.1.lt e.symm).2; have := HSz.out.1; omega)).trans HC6.out.1; obtain ⟨p7, c7, e7, _, _, _, _⟩ := h1.shape; obtain ⟨n7, hn7⟩ : ∃ n, n = (Mm.nts ((K.take j).map Ix.tidOf) ++ [Value.int .i64 ((Ix.tidOf x : Nat) : Int)]).length := ⟨_, rfl⟩; rw [← hn7] at e7; subst e7; have H7 := Mm.hid (And.intro h1 (And.intro hk7 hz7)); have z0 : w7.cell? ⟨gc, 0, none⟩ = some (.slice pT nT cT) := Mm.cellOf hz7 rfl; have z1 : w7.frozen? ⟨gc, 0, none⟩ = false := (by simp [World.frozen?, hz7]); clear h1 h2 h3 hk7 hz7 hn7 y0 i4)
      have hfin : (w7.setCell ⟨gc, 0, none⟩ (.slice p7 n7 c7)).heap[gc]? = some (.cells #[.slice p7 n7 c7, .slice p2 nL c2] 48 (0, 0)) := Ix.set_at0 H7.out.2.2
      refine ⟨⟨j + 1, p7, n7, c7, by omega, by go_num, Mm.hid ⟨hfin, ?_, (HC6.out.2.2.1.trans H7.out.2.1).trans (Ix.Kq.set _)⟩⟩, by simp [RowKit.intOf]; omega⟩
      rw [HTK.out, Mm.nts_app]
      exact H7.out.1.keep (fun g hg => Below.heap_setCell _ _ _ g (fun e => by have := (H7.out.1.lt hg).2; have := HSz.out.1; have e' : g = gc := e; omega))
    · obtain rfl : j = nK := by omega
      have ht : K.take j = K := List.take_of_length_le (by rw [← HNK.out]; exact Nat.le_refl _)
      rw [ht] at HR
      have y0 : wr.cell? ⟨gc, 0, none⟩ = some (.slice pT nT cT) := Mm.cellOf HR.out.1 rfl
      have y1 : wr.cell? ⟨gc, 1, none⟩ = some (.slice p2 nL c2) := Mm.cellOf HR.out.1 rfl
      have hA : wr.heap[ga]? = some (.cells #[.slice none 0 0, .slice none 0 0] 48 (0, 0)) := (HR.out.2.2.block ga HSz.out.2.2.2.2.1 HSz.out.2.2.2.2.2).trans HC3.out.2.2.2.1
      have HAA := Mm.hid hA
      have x0 : wr.cell? ⟨ga, 0, none⟩ = some (.slice none 0 0) := Mm.cellOf hA rfl
      have x1 : wr.cell? ⟨ga, 1, none⟩ = some (.slice none 0 0) := Mm.cellOf hA rfl
      have f0 : wr.frozen? ⟨ga, 0, none⟩ = false := by simp [World.frozen?, hA]
      have f1 : wr.frozen? ⟨ga, 1, none⟩ = false := by simp [World.frozen?, hA]
      have HBW : Hid (Below w.heap.size w wr) := Mm.hid ⟨HR.out.2.2.os.trans HC3.out.2.2.2.2.1.os, HR.out.2.2.tape.trans HC3.out.2.2.2.2.1.tape, HR.out.2.2.output.trans HC3.out.2.2.2.2.1.output, Nat.le_trans HC3.out.2.2.2.2.1.size HR.out.2.2.size, fun g hg => (HR.out.2.2.block g (by have := HSz.out; have := HGA.out; omega) (by have := HC3.out.1; have := HLT.out.1; have := HGA.out; omega)).trans (HC3.out.2.2.2.2.1.block g hg)⟩
      clear ht hA
      go_wp2_with fail
      obtain ⟨d0, d1⟩ := Ix.set2 (w := wr) (b := ga) (.slice pT nT cT) (.slice p2 nL c2) ⟨_, x0⟩ ⟨_, x1⟩
      refine bodyPost_ret (v := .agg #[.slice pT nT cT, .slice p2 nL c2]) (by simp [results, Tryz.results43, go_sem, d0, d1]) rfl ⟨pT, nT, cT, p2, nL, c2, rfl, ?_⟩
      refine ⟨(HR.out.2.1.keep (fun g hg => Ix.set2_oth _ _ (fun e => ?_))).base (by have := HC3.out.1; have := HLT.out.1; have := HGA.out; omega), (HC3.out.2.2.2.2.2.2.keep (fun g hg => (Ix.set2_oth _ _ (fun e => ?_)).trans (HR.out.2.2.block g ?_ ?_))).base HB0.out.1.size, HBW.out.trans (Ix.set2_bel _ _ (by rw [HGA.out]; exact Nat.le_refl _))⟩
      · have := (HR.out.2.1.lt hg).2; have := HSz.out.2.2.2.2.1; omega
      · have := (HLT.out.2 g hg).2; have := HB0.out.2; have := HGA.out; omega
      · have := (HLT.out.2 g hg).1; have := HC3.out.1; omega
      · have := (HLT.out.2 g hg).1; have := HC3.out.1; omega
end
end Go.Proofs.YtjnaafgiokdcbaaGreatDoor
