/- wakes, fair. -/
import Derived.Test.YtjnaafgiokdcbaaGreatDoorI4
import Derived.Test.YtjnaafgiokdcbaaGreatDoorHL
namespace Go.Proofs.YtjnaafgiokdcbaaGreatDoor
open Go.RowKit
attribute [local go_sem] Fl.run_store_float
attribute [local go_sem ↓] Go.wp_at_zero Go.wp_at_succ

namespace Ix
open Vl Ky
/-- A block of one's own besides the leaves. -/
structure Bx (w : World) (tag : Nat → Option Lf.Tg) (g : Nat) (o : Obj) : Prop where
  at_ : w.heap[g]? = some o
  t : tag g = none
theorem Bx.lt {w : World} {tag : Nat → Option Lf.Tg} {g : Nat} {o : Obj} (h : Bx w tag g o) : g < w.heap.size := Mm.heapLt h.at_
theorem Bx.below {w w' : World} {tag : Nat → Option Lf.Tg} {g : Nat} {o : Obj} (h : Bx w tag g o) (hb : Below w.heap.size w w') : Bx w' tag g o := ⟨(hb.block _ h.lt).trans h.at_, h.t⟩
theorem Bx.ev {w w' : World} {tag tag' : Nat → Option Lf.Tg} {g : Nat} {o : Obj} (h : Bx w tag g o) (hE : Lf.Ev tag tag' w w') : Bx w' tag' g o := ⟨(hE.block _ h.lt h.t).trans h.at_, hE.tags _ h.lt h.t⟩
def v5 : V := ⟨2, 5, 0, ⟨#[]⟩⟩
theorem g5 : GoodV v5 := Ky.good_2 (n := 5) (by omega) (by omega)
def k1 : ByteArray := ent (v5, 1)
def k3 : ByteArray := ent (v5, 3)
def k7 : ByteArray := ent (v5, 7)
theorem gd (n : Nat) (h : n < 65536) : Gd (v5, n) := ⟨g5, h⟩
theorem lt55 (a b : Nat) (ha : a < 65536) (hb : b < 65536) (h : a < b) : Lf.lt (ent (v5, a)) (ent (v5, b)) = true := by
  rw [lt_cmp, ent_cmp (gd a ha) (gd b hb)]
  refine decide_eq_true ?_
  rw [cmpV_self, if_pos rfl]
  unfold cmpZ
  rw [if_pos (by show (a : Int) < (b : Int); omega)]
  decide
def qA : Lf.Pg := ⟨1, ⟨#[]⟩, [k3]⟩
def qB : Lf.Pg := ⟨1, ⟨#[]⟩, [k1, k3]⟩
def qC : Lf.Pg := ⟨2, k7, [k7]⟩
def tA : Lf.S := ⟨2, 1, [qA], 1⟩
def tB : Lf.S := ⟨2, 1, [qB], 2⟩
def tC : Lf.S := ⟨2, 2, [qB, qC], 3⟩
theorem l13 : Lf.lt k1 k3 = true := lt55 1 3 (by omega) (by omega) (by omega)
theorem l17 : Lf.lt k1 k7 = true := lt55 1 7 (by omega) (by omega) (by omega)
theorem l37 : Lf.lt k3 k7 = true := lt55 3 7 (by omega) (by omega) (by omega)
theorem sz (n : Nat) (h : n < 65536) : (ent (v5, n)).size ≤ 1024 := by have := ent_size (gd n h); omega
theorem iA : Lf.InsR (Lf.S0 2) k3 tA 1 0 0 0 :=
  Lf.InsR.ok (L := []) (P := Lf.p0) (R := []) (A := []) (B := []) (L' := []) (P' := qA) (R' := []) (Lf.spl_one rfl k3 rfl) ⟨rfl, (fun _ h => nomatch h), (fun _ h => nomatch h)⟩ (by simp) (sz 3 (by omega)) (Lf.spl_one (s := tA) rfl k3 rfl)
theorem iB : Lf.InsR tA k1 tB 1 0 0 0 :=
  Lf.InsR.ok (L := []) (P := qA) (R := []) (A := []) (B := [k3]) (L' := []) (P' := qB) (R' := []) (Lf.spl_one rfl k1 rfl) ⟨rfl, (fun _ h => nomatch h), (fun b h => by rw [List.mem_singleton.1 h]; exact Lf.lt_as l13)⟩ (fun e => by have h := Option.some.inj e; exact Lf.lt_ne l13 h.symm) (sz 1 (by omega)) (Lf.spl_one (s := tB) rfl k1 rfl)
theorem sC7 : Lf.Spl tC k7 [qB] qC [] := ⟨rfl, (fun Q h => by rw [List.mem_singleton.1 h]; exact Lf.lt_emp k7), Lf.lt_irr _, (fun _ h => nomatch h)⟩
theorem iC : Lf.InsR tB k7 tC 2 1 2 0 :=
  Lf.InsR.ok (L := []) (P := qB) (R := []) (A := [k1, k3]) (B := []) (L' := [qB]) (P' := qC) (R' := []) (Lf.spl_one rfl k7 rfl) ⟨rfl, (fun a h => by
    rcases List.mem_cons.1 h with e | h
    · rw [e]; exact l17
    · rw [List.mem_singleton.1 h]; exact l37), (fun _ h => nomatch h)⟩ (by simp) (sz 7 (by omega)) sC7
theorem etC : Et tC [(v5, 1), (v5, 3), (v5, 7)] := ⟨fun p hp => by
  rcases List.mem_cons.1 hp with e | hp
  · rw [e]; exact gd 1 (by omega)
  rcases List.mem_cons.1 hp with e | hp
  · rw [e]; exact gd 3 (by omega)
  · rw [List.mem_singleton.1 hp]; exact gd 7 (by omega), rfl⟩
theorem e50 : entE v5 0 = 0 := entE_good (n := 0) g5 (by omega)
theorem ftC (hI : Lf.Inv tC) : findT tC v5 = [1, 3, 7] := by
  unfold findT
  rw [if_pos e50, find_tids etC hI g5]
  have h : sameF v5 = fun p => decide (cmpV p.1 v5 = 0) := rfl
  have h1 : ∀ n, sameF v5 (v5, n) = true := fun n => decide_eq_true (cmpV_self v5)
  rw [List.filter_cons_of_pos (h1 1), List.filter_cons_of_pos (h1 3), List.filter_cons_of_pos (h1 7)]
  rfl
theorem s0 : Lf.Spl tC (ent (v5, 0)) [] qB [qC] := ⟨rfl, (fun _ h => nomatch h), Lf.lt_emp _, (fun Q h => by rw [List.mem_singleton.1 h]; exact lt55 0 7 (by omega) (by omega) (by omega))⟩
theorem s3 : Lf.Spl tC k3 [] qB [qC] := ⟨rfl, (fun _ h => nomatch h), Lf.lt_emp _, (fun Q h => by rw [List.mem_singleton.1 h]; exact l37)⟩
theorem laft (n : Nat) (h : n < 65536) : Lf.lt (ent (v5, n)) (aftB v5) = true := by rw [lt_after (gd n h) g5, show cmpV (v5, n).1 v5 = 0 from cmpV_self v5]; decide
theorem flC (hI : Lf.Inv tC) : findL tC v5 = [1, 2] := by
  unfold findL
  rw [if_pos e50, show (0 : Int) = ((0 : Nat) : Int) from rfl, entB_good g5 (by omega)]
  unfold Lf.spanL
  rw [if_neg (fun h => by rw [laft 0 (by omega)] at h; cases h.2), Lf.drop_spl hI s0]
  unfold Lf.rngL
  have h1 : Lf.upTo (aftB v5) qB = true := by unfold Lf.upTo; rw [show qB.b = ⟨#[]⟩ from rfl, Lf.lt_emp]; simp
  have h2 : Lf.upTo (aftB v5) qC = true := by unfold Lf.upTo; rw [show qC.b = ent (v5, 7) from rfl, Lf.lt_as (laft 7 (by omega))]; simp
  rw [List.takeWhile_cons_of_pos h1, List.takeWhile_cons_of_pos h2]
  rfl
theorem hC3 : hasE tC v5 3 = true := by
  unfold hasE
  rw [show (3 : Int) = ((3 : Nat) : Int) from rfl, entE_good g5 (by omega), entB_good g5 (by omega), show Lf.leafOf tC (ent (v5, 3)) = qB from Lf.leaf_spl s3, Lf.inKs_iff.2 (by show k3 ∈ [k1, k3]; simp)]
  rfl
theorem addA {n : Nat} (hn : n < 65536) {s s' : Lf.S} {l f t er : Nat} (h : AddR s v5 (n : Int) s' l f t er) : Lf.InsR s (ent (v5, n)) s' l f t er := by
  rcases h with ⟨h, _⟩ | ⟨_, h⟩
  · exact absurd (entE_good g5 hn) h
  · rw [entB_good g5 hn] at h; exact h
theorem iin_three {w : World} {g : Nat} {a b c : Int} (h : w.heap[g]? = some (.cells #[.int .i64 a, .int .i64 b, .int .i64 c] 3 (0, 0))) : Mm.IIn w (some ⟨g, 0, none⟩) [a, b, c] := fun j y hy => by
  match j, hy with
  | 0, hy => simp at hy; subst hy; exact ⟨g, 0, rfl, Mm.heapLt h, Mm.cellOf h rfl⟩
  | 1, hy => simp at hy; subst hy; exact ⟨g, 0, rfl, Mm.heapLt h, Mm.cellOf h rfl⟩
  | 2, hy => simp at hy; subst hy; exact ⟨g, 0, rfl, Mm.heapLt h, Mm.cellOf h rfl⟩
end Ix

set_option maxRecDepth 100000 in
set_option maxHeartbeats 4000000 in
theorem wakesI_any (w : World) (hM : Ky.Mx w) : Calls Tryz.prog 10 #[] w fun e w' => e = .returned (.bool true) ∧ Below w.heap.size w w' := by
  have HM := Mm.hid hM
  have HI5 : Hid (Ky.In Ix.v5) := Mm.hid Ix.g5.inn
  clear hM
  have HQ0 := Mm.hid (Ix.iq0 w 2 (Nat.le_refl _) (by omega))
  have HB0 := Mm.hid (Ix.bel1 w 2)
  have hnw := newI_any 2 (Nat.le_refl _) (by omega) w
  generalize Lf.tag0 w.heap.size = t0 at HQ0
  generalize Ix.W1 w 2 = w0 at HQ0 HB0 hnw
  obtain ⟨pb, hpb⟩ : ∃ p, p = w.heap.size + 3 := ⟨_, rfl⟩
  obtain ⟨pl, hpl⟩ : ∃ p, p = w.heap.size + 2 := ⟨_, rfl⟩
  rw [← hpb] at HQ0 hnw
  rw [← hpl] at HQ0
  have HN := Mm.hid hnw
  clear hnw hpb hpl
  go_enter Tryz.func10, Tryz.ntmps10
  go_wp2_with fail
  refine HN.out.mono ?_
  rintro e w0' ⟨rfl, hw0⟩
  obtain rfl := hw0.symm
  clear hw0 HN
  go_upto_region 5 with fail
  obtain ⟨g, hg⟩ : ∃ g, g = w0.heap.size := ⟨_, rfl⟩
  obtain ⟨w1, hw1⟩ : ∃ x, (w0.alloc (.cells #[.int .i64 2, .int .i64 5, .float .f64 0, .string ⟨#[]⟩] 34)) = x := ⟨_, rfl⟩
  have HX1 : Hid (Ix.Bx w1 t0 g (.cells #[.int .i64 2, .int .i64 5, .float .f64 0, .string ⟨#[]⟩] 34 (0, 0))) := Mm.hid ⟨by rw [← hw1]; exact Mm.newAt _ _ hg, HQ0.out.q.top _ (by omega)⟩
  have HQ1 : Hid (Ix.Iq w.heap.size w1 t0 pb pl (Lf.S0 2) 0) := Mm.hid (by rw [← hw1]; exact HQ0.out.below ((Below.refl _ _).alloc (Nat.le_refl _) _))
  have HB1 : Hid (Below w.heap.size w w1) := Mm.hid (by rw [← hw1]; exact HB0.out.alloc HB0.out.size _)
  rw [← hg, hw1]
  clear hw1 hg HQ0 HB0
  have c0 : w1.cell? ⟨g, 0, none⟩ = some (.int .i64 2) := Mm.cellOf HX1.out.at_ rfl
  have c1 : w1.cell? ⟨g, 1, none⟩ = some (.int .i64 5) := Mm.cellOf HX1.out.at_ rfl
  have c2 : w1.cell? ⟨g, 2, none⟩ = some (.float .f64 0) := Mm.cellOf HX1.out.at_ rfl
  have c3 : w1.cell? ⟨g, 3, none⟩ = some (.string ⟨#[]⟩) := Mm.cellOf HX1.out.at_ rfl
  have HA : Hid (Calls Tryz.prog 11 #[.pointer (some ⟨pb, 0, none⟩), .agg #[.int .i64 2, .int .i64 5, .float .f64 0, .string ⟨#[]⟩], .int .i64 3] w1 _) := Mm.hid (add_any HQ1 (by omega) HB1.out.size Ix.v5 3 (HM.out.below HB1.out) HI5.out)
  go_wp2_with fail
  refine HA.out.mono ?_
  rintro e w2 ⟨s2, l2, f2, m2, r2, rfl, hr, t2, hq, hE⟩
  obtain ⟨rfl, rfl, rfl, rfl, rfl⟩ := (Ix.addA (n := 3) (by omega) hr).det Ix.iA
  have HQ2 := Mm.hid hq
  have HB2 : Hid (Below w.heap.size w w2) := Mm.hid (HB1.out.trans (hE.bel HB1.out.size HQ1.out.q.bot))
  have HX2 := Mm.hid (HX1.out.ev hE)
  clear hr hq hE HA HX1 HB1 HQ1 c0 c1 c2 c3
  have c0 : w2.cell? ⟨g, 0, none⟩ = some (.int .i64 2) := Mm.cellOf HX2.out.at_ rfl
  have c1 : w2.cell? ⟨g, 1, none⟩ = some (.int .i64 5) := Mm.cellOf HX2.out.at_ rfl
  have c2 : w2.cell? ⟨g, 2, none⟩ = some (.float .f64 0) := Mm.cellOf HX2.out.at_ rfl
  have c3 : w2.cell? ⟨g, 3, none⟩ = some (.string ⟨#[]⟩) := Mm.cellOf HX2.out.at_ rfl
  have HA : Hid (Calls Tryz.prog 11 #[.pointer (some ⟨pb, 0, none⟩), .agg #[.int .i64 2, .int .i64 5, .float .f64 0, .string ⟨#[]⟩], .int .i64 1] w2 _) := Mm.hid (add_any HQ2 (by omega) HB2.out.size Ix.v5 1 (HM.out.below HB2.out) HI5.out)
  go_wp2_with fail
  refine HA.out.mono ?_
  rintro e w3 ⟨s3, l3, f3, m3, r3, rfl, hr, t3, hq, hE⟩
  obtain ⟨rfl, rfl, rfl, rfl, rfl⟩ := (Ix.addA (n := 1) (by omega) hr).det Ix.iB
  have HQ3 := Mm.hid hq
  have HB3 : Hid (Below w.heap.size w w3) := Mm.hid (HB2.out.trans (hE.bel HB2.out.size HQ2.out.q.bot))
  have HX3 := Mm.hid (HX2.out.ev hE)
  clear hr hq hE HA HX2 HB2 HQ2 c0 c1 c2 c3
  have c0 : w3.cell? ⟨g, 0, none⟩ = some (.int .i64 2) := Mm.cellOf HX3.out.at_ rfl
  have c1 : w3.cell? ⟨g, 1, none⟩ = some (.int .i64 5) := Mm.cellOf HX3.out.at_ rfl
  have c2 : w3.cell? ⟨g, 2, none⟩ = some (.float .f64 0) := Mm.cellOf HX3.out.at_ rfl
  have c3 : w3.cell? ⟨g, 3, none⟩ = some (.string ⟨#[]⟩) := Mm.cellOf HX3.out.at_ rfl
  have HA : Hid (Calls Tryz.prog 11 #[.pointer (some ⟨pb, 0, none⟩), .agg #[.int .i64 2, .int .i64 5, .float .f64 0, .string ⟨#[]⟩], .int .i64 7] w3 _) := Mm.hid (add_any HQ3 (by omega) HB3.out.size Ix.v5 7 (HM.out.below HB3.out) HI5.out)
  go_wp2_with fail
  refine HA.out.mono ?_
  rintro e w4 ⟨s4, l4, f4, m4, r4, rfl, hr, t4, hq, hE⟩
  obtain ⟨rfl, rfl, rfl, rfl, rfl⟩ := (Ix.addA (n := 7) (by omega) hr).det Ix.iC
  have HQ4 := Mm.hid hq
  have HB4 : Hid (Below w.heap.size w w4) := Mm.hid (HB3.out.trans (hE.bel HB3.out.size HQ3.out.q.bot))
  have HX4 := Mm.hid (HX3.out.ev hE)
  clear hr hq hE HA HX3 HB3 HQ3 c0 c1 c2 c3
  obtain ⟨w5, hw5⟩ : ∃ x, (w4.alloc (.cells #[.int .i64 1, .int .i64 2] 38)) = x := ⟨_, rfl⟩
  have HB45 : Hid (Below w4.heap.size w4 w5) := Mm.hid (by rw [← hw5]; exact (Below.refl _ w4).alloc (Nat.le_refl _) _)
  have HX5 := Mm.hid (HX4.out.below HB45.out)
  have HQ5 := Mm.hid (HQ4.out.below HB45.out)
  have HB5 : Hid (Below w.heap.size w w5) := Mm.hid (HB4.out.trans (HB45.out.mono HB4.out.size))
  obtain ⟨gm, hgm⟩ : ∃ x, x = w4.heap.size := ⟨_, rfl⟩
  have HM5 : Hid (w5.heap[gm]? = some (.cells #[.int .i64 1, .int .i64 2] 38 (0, 0))) := Mm.hid (by rw [← hw5]; exact Mm.newAt w4 _ hgm)
  have c0 : w4.cell? ⟨g, 0, none⟩ = some (.int .i64 2) := Mm.cellOf HX4.out.at_ rfl
  have c1 : w4.cell? ⟨g, 1, none⟩ = some (.int .i64 5) := Mm.cellOf HX4.out.at_ rfl
  have c2 : w4.cell? ⟨g, 2, none⟩ = some (.float .f64 0) := Mm.cellOf HX4.out.at_ rfl
  have c3 : w4.cell? ⟨g, 3, none⟩ = some (.string ⟨#[]⟩) := Mm.cellOf HX4.out.at_ rfl
  go_upto_region 8 with fail
  rw [← hgm]
  clear hw5 hgm c0 c1 c2 c3 HX4 HB4 HQ4 HB45
  have c0 : w5.cell? ⟨g, 0, none⟩ = some (.int .i64 2) := Mm.cellOf HX5.out.at_ rfl
  have c1 : w5.cell? ⟨g, 1, none⟩ = some (.int .i64 5) := Mm.cellOf HX5.out.at_ rfl
  have c2 : w5.cell? ⟨g, 2, none⟩ = some (.float .f64 0) := Mm.cellOf HX5.out.at_ rfl
  have c3 : w5.cell? ⟨g, 3, none⟩ = some (.string ⟨#[]⟩) := Mm.cellOf HX5.out.at_ rfl
  have hf : Calls Tryz.prog 15 #[.pointer (some ⟨pb, 0, none⟩), .agg #[.int .i64 2, .int .i64 5, .float .f64 0, .string ⟨#[]⟩]] w5 fun e w' => ∃ v1 v2, e = .returned (.tuple #[v1, v2]) ∧ Ix.Tw w5 w' v1 v2 (Ix.findT Ix.tC Ix.v5) (Ix.findL Ix.tC Ix.v5) := ifind_any HQ5 (by omega) Ix.v5 (HM.out.below HB5.out) HI5.out
  rw [Ix.ftC HQ5.out.q.2.1, Ix.flC HQ5.out.q.2.1] at hf
  have HF := Mm.hid hf
  clear hf
  go_wp2_with fail
  refine HF.out.mono ?_
  rintro e w6 ⟨v1, v2, rfl, hT⟩
  obtain ⟨q1, c1', e1, I1⟩ := hT.o1.nin
  obtain ⟨q2, c2', e2, I2⟩ := hT.o2.nin
  have e1' : v1 = .slice q1 3 c1' := e1
  have e2' : v2 = .slice q2 2 c2' := e2
  subst e1' e2'
  have HB6 : Hid (Below w.heap.size w w6) := Mm.hid (HB5.out.trans (hT.bel.mono HB5.out.size))
  have HQ6 := Mm.hid (HQ5.out.below hT.bel)
  have HX6 := Mm.hid (HX5.out.below hT.bel)
  have hb6 : w6.heap[gm]? = some (.cells #[.int .i64 1, .int .i64 2] 38 (0, 0)) := (hT.bel.block _ (Mm.heapLt HM5.out)).trans HM5.out
  have d0 : w6.cell? ⟨gm, 0, none⟩ = some (.int .i64 1) := Mm.cellOf hb6 rfl
  have d1 : w6.cell? ⟨gm, 1, none⟩ = some (.int .i64 2) := Mm.cellOf hb6 rfl
  have HI2 : Hid (Mm.IIn w6 q2 [1, 2]) := Mm.hid I2
  have HI7 : Hid (Mm.IIn (w6.alloc (.cells #[.int .i64 1, .int .i64 3, .int .i64 7] 3)) q1 [1, 3, 7]) := Mm.hid (Mm.IIn.below I1 ((Below.refl _ w6).alloc (Nat.le_refl _) _))
  have HJ7 : Hid (Mm.IIn (w6.alloc (.cells #[.int .i64 1, .int .i64 3, .int .i64 7] 3)) (some ⟨w6.heap.size, 0, none⟩) [1, 3, 7]) := Mm.hid (Ix.iin_three (Mm.newAt w6 _ rfl))
  have hix := ints_gen [1, 3, 7] [1, 3, 7] q1 (some ⟨w6.heap.size, 0, none⟩) 3 3 c1' 3 _ HI7 HJ7 (Mm.hid rfl) (Mm.hid rfl) (by decide)
  rw [decide_eq_true (show ([1, 3, 7] : List Int) = [1, 3, 7] from rfl)] at hix
  have HIX := Mm.hid hix
  clear hix e1 e2 I1 I2 hT hb6 c0 c1 c2 c3 HF HX5 HQ5 HB5 HM5
  go_wp2_with fail
  refine HIX.out.mono ?_
  rintro e w7 ⟨rfl, hb7⟩
  have HBW7 : Hid (Below w6.heap.size w6 w7) := Mm.hid ((Below.refl _ w6).alloc (Nat.le_refl _) _ |>.trans (hb7.mono (by simp)))
  have HI8 : Hid (Mm.IIn (w7.alloc (.cells #[.int .i64 1, .int .i64 2] 3)) q2 [1, 2]) := Mm.hid ((HI2.out.below HBW7.out).below ((Below.refl _ w7).alloc (Nat.le_refl _) _))
  have HJ8 : Hid (Mm.IIn (w7.alloc (.cells #[.int .i64 1, .int .i64 2] 3)) (some ⟨w7.heap.size, 0, none⟩) [1, 2]) := Mm.hid (Lf.iin_two (Mm.newAt w7 _ rfl))
  have hix := ints_gen [1, 2] [1, 2] q2 (some ⟨w7.heap.size, 0, none⟩) 2 2 c2' 2 _ HI8 HJ8 (Mm.hid rfl) (Mm.hid rfl) (by decide)
  rw [decide_eq_true (show ([1, 2] : List Int) = [1, 2] from rfl)] at hix
  have HIY := Mm.hid hix
  clear hix hb7 HIX d0 d1
  go_wp2_with fail
  refine HIY.out.mono ?_
  rintro e w8 ⟨rfl, hb8⟩
  have HB68 : Hid (Below w6.heap.size w6 w8) := Mm.hid (HBW7.out.trans (((Below.refl _ w7).alloc (Nat.le_refl _) _ |>.trans (hb8.mono (by simp))).mono HBW7.out.size))
  have HX8 := Mm.hid (HX6.out.below HB68.out)
  have HQ8 := Mm.hid (HQ6.out.below HB68.out)
  have HB8 : Hid (Below w.heap.size w w8) := Mm.hid (HB6.out.trans (HB68.out.mono HB6.out.size))
  clear hb8 HIY HX6 HQ6 HB6 HBW7
  have c0 : w8.cell? ⟨g, 0, none⟩ = some (.int .i64 2) := Mm.cellOf HX8.out.at_ rfl
  have c1 : w8.cell? ⟨g, 1, none⟩ = some (.int .i64 5) := Mm.cellOf HX8.out.at_ rfl
  have c2 : w8.cell? ⟨g, 2, none⟩ = some (.float .f64 0) := Mm.cellOf HX8.out.at_ rfl
  have c3 : w8.cell? ⟨g, 3, none⟩ = some (.string ⟨#[]⟩) := Mm.cellOf HX8.out.at_ rfl
  have hh : Calls Tryz.prog 20 #[.pointer (some ⟨pb, 0, none⟩), .agg #[.int .i64 2, .int .i64 5, .float .f64 0, .string ⟨#[]⟩], .int .i64 3] w8 fun e w' => e = .returned (.bool (Ix.hasE Ix.tC Ix.v5 3)) ∧ Below w8.heap.size w8 w' := ihas_any HQ8 (by omega) Ix.v5 3 (HM.out.below HB8.out) HI5.out
  rw [Ix.hC3] at hh
  have HH := Mm.hid hh
  clear hh
  go_wp2_with fail
  refine HH.out.mono ?_
  rintro e w9 ⟨rfl, hb9⟩
  have HQ9 := Mm.hid (HQ8.out.below hb9)
  have HB9 : Hid (Below w.heap.size w w9) := Mm.hid (HB8.out.trans (hb9.mono HB8.out.size))
  have HL : Hid (Calls Tryz.prog 22 #[.pointer (some ⟨pb, 0, none⟩)] w9 fun e w' => e = .returned (.int .i64 3) ∧ Below w9.heap.size w9 w') := Mm.hid (ilen_any HQ9)
  clear hb9 HH c0 c1 c2 c3 HQ8 HB8 HX8
  go_wp2_with fail
  refine HL.out.mono ?_
  rintro e w10 ⟨rfl, hb10⟩
  have HB10 : Hid (Below w.heap.size w w10) := Mm.hid (HB9.out.trans (hb10.mono HB9.out.size))
  clear hb10 HL
  go_wp2_with fail
  go_ret
  exact ⟨rfl, HB10.out⟩

end Go.Proofs.YtjnaafgiokdcbaaGreatDoor
