/- The law IndexFinds. -/
import Derived.Test.YtjnaafgiokdcbaaGreatDoorI11
namespace Go.Proofs.YtjnaafgiokdcbaaGreatDoor
open Go.RowKit
attribute [local go_sem] Fl.run_store_float
attribute [local go_sem ↓] Go.wp_at_zero Go.wp_at_succ

set_option maxRecDepth 100000 in
set_option maxHeartbeats 4000000 in
theorem indexFinds_all (a : Option Addr) (l c : Nat) (zs : List Ix.Stp) (v x : Vl.V) (W : World) (hM : Ky.Mx W) (hz : Ix.Stps W a l c zs) (hv : Ky.In v) (hx : Ky.In x) :
    Calls Tryz.prog 4 #[.slice a l c, .agg #[.int .i64 v.k, .int .i64 v.n, .float .f64 v.f, .string v.s], .agg #[.int .i64 x.k, .int .i64 x.n, .float .f64 x.f, .string x.s]] W fun e w' => e = .returned (.bool true) ∧ Below W.heap.size W w' := by
  have HM := Mm.hid hM
  have HZ := Mm.hid hz
  have HVX := Mm.hid (And.intro hv hx)
  have hbig : l ≤ 9223372036854775807 := hz.big
  have HNW := Mm.hid (newI_q 4 (by omega) (by omega))
  clear hM hz hv hx
  go_enter Tryz.func4, Tryz.ntmps4
  go_upto_region 1 with fail
  obtain ⟨gv, hgv⟩ : ∃ g, g = W.heap.size := ⟨_, rfl⟩
  obtain ⟨gx, hgx⟩ : ∃ g, g = W.heap.size + 1 := ⟨_, rfl⟩
  obtain ⟨w0, hw0⟩ : ∃ y, ((W.alloc (.cells #[.int .i64 v.k, .int .i64 v.n, .float .f64 v.f, .string v.s] 34)).alloc (.cells #[.int .i64 x.k, .int .i64 x.n, .float .f64 x.f, .string x.s] 34)) = y := ⟨_, rfl⟩
  have HX0 : Hid (w0.heap[gx]? = some (.cells #[.int .i64 x.k, .int .i64 x.n, .float .f64 x.f, .string x.s] 34 (0, 0))) := Mm.hid (by rw [← hw0]; exact Mm.newAt _ _ (by simp [hgx]))
  have HV0 : Hid (w0.heap[gv]? = some (.cells #[.int .i64 v.k, .int .i64 v.n, .float .f64 v.f, .string v.s] 34 (0, 0))) := Mm.hid (by rw [← hw0]; exact (Mm.oldAt _ _ (by simp [hgv])).trans (Mm.newAt _ _ hgv))
  have HB0 : Hid (Below W.heap.size W w0) := Mm.hid (by rw [← hw0]; exact Vl.bal (Vl.bal (Below.refl _ _) _) _)
  rw [← hgx, ← hgv, hw0]
  clear hw0 hgv hgx
  go_wp2_with fail
  refine (HNW.out w0).mono ?_
  rintro e w1 ⟨pb, pl, tg, rfl, hq1, hb1⟩
  obtain ⟨h, hh⟩ : ∃ h, h = w0.heap.size := ⟨_, rfl⟩
  rw [← hh] at hq1
  have HS1 : Hid (Ix.Sf W h w1 tg pb pl (Lf.S0 4) 0 [] [] (.slice none 0 0) gv gx (.cells #[.int .i64 v.k, .int .i64 v.n, .float .f64 v.f, .string v.s] 34 (0, 0)) (.cells #[.int .i64 x.k, .int .i64 x.n, .float .f64 x.f, .string x.s] 34 (0, 0))) := Mm.hid ⟨hq1, Ix.pm0 4, ⟨by rw [hh]; exact HB0.out.size, by rw [hh]; exact hb1.size⟩, Vl.btr HB0.out hb1, ⟨(hb1.block _ (Mm.heapLt HV0.out)).trans HV0.out, hq1.q.bot _ (by rw [hh]; exact Mm.heapLt HV0.out)⟩, ⟨(hb1.block _ (Mm.heapLt HX0.out)).trans HX0.out, hq1.q.bot _ (by rw [hh]; exact Mm.heapLt HX0.out)⟩, ⟨by rw [hh]; exact Mm.heapLt HV0.out, by rw [hh]; exact Mm.heapLt HX0.out⟩, Ix.OwS.nil _ _, (fun _ e => nomatch e)⟩
  clear hb1 hq1 hh HX0 HV0 HB0 HNW
  go_wp2_with fail
  refine (fair11_any a l c zs W w1 HZ (Mm.hid HS1.out.b) hbig).mono ?_
  rintro e w2 ⟨b, rfl, hf, hb2⟩
  have HS2 := Mm.hid (HS1.out.below hb2)
  clear hb2 HS1
  cases b with
  | false =>
    go_wp2_with fail
    refine (wakesI_any _ (HM.out.below HS2.out.b)).mono ?_
    rintro e wk ⟨rfl, hb⟩
    have HBK := Mm.hid (Vl.btr HS2.out.b hb)
    clear hb
    go_wp2_with fail
    go_ret
    exact ⟨rfl, HBK.out⟩
  | true =>
    have hl : l ≤ 150 := hf rfl
    clear hf
    have c0 : w2.cell? ⟨gv, 0, none⟩ = some (.int .i64 v.k) := Mm.cellOf HS2.out.v.at_ rfl
    have c1 : w2.cell? ⟨gv, 1, none⟩ = some (.int .i64 v.n) := Mm.cellOf HS2.out.v.at_ rfl
    have c2 : w2.cell? ⟨gv, 2, none⟩ = some (.float .f64 v.f) := Mm.cellOf HS2.out.v.at_ rfl
    have c3 : w2.cell? ⟨gv, 3, none⟩ = some (.string v.s) := Mm.cellOf HS2.out.v.at_ rfl
    go_wp2_with fail
    refine (refGood_any v.k v.n v.f v.s _).mono ?_
    rintro e w3 ⟨rfl, hb⟩
    have HS3 := Mm.hid (HS2.out.below hb)
    clear hb HS2 c0 c1 c2 c3
    cases hgv : Vl.goodB v.k v.n v.f v.s with
    | false =>
      go_wp2_with fail
      refine (wakesI_any _ (HM.out.below HS3.out.b)).mono ?_
      rintro e wk ⟨rfl, hb⟩
      have HBK := Mm.hid (Vl.btr HS3.out.b hb)
      clear hb
      go_wp2_with fail
      go_ret
      exact ⟨rfl, HBK.out⟩
    | true =>
      have c0 : w3.cell? ⟨gx, 0, none⟩ = some (.int .i64 x.k) := Mm.cellOf HS3.out.x.at_ rfl
      have c1 : w3.cell? ⟨gx, 1, none⟩ = some (.int .i64 x.n) := Mm.cellOf HS3.out.x.at_ rfl
      have c2 : w3.cell? ⟨gx, 2, none⟩ = some (.float .f64 x.f) := Mm.cellOf HS3.out.x.at_ rfl
      have c3 : w3.cell? ⟨gx, 3, none⟩ = some (.string x.s) := Mm.cellOf HS3.out.x.at_ rfl
      go_wp2_with fail
      refine (refGood_any x.k x.n x.f x.s _).mono ?_
      rintro e w4 ⟨rfl, hb⟩
      have HS4 := Mm.hid (HS3.out.below hb)
      clear hb HS3 c0 c1 c2 c3
      cases hgx : Vl.goodB x.k x.n x.f x.s with
      | false =>
        go_wp2_with fail
        refine (wakesI_any _ (HM.out.below HS4.out.b)).mono ?_
        rintro e wk ⟨rfl, hb⟩
        have HBK := Mm.hid (Vl.btr HS4.out.b hb)
        clear hb
        go_wp2_with fail
        go_ret
        exact ⟨rfl, HBK.out⟩
      | true =>
        have HG := Mm.hid (And.intro (HVX.out.1.good hgv) (HVX.out.2.good hgx))
        clear hgv hgx
        go_wp2_with fail
        go_loopw [9, 10] (fun vin vi wr => ∃ (k : Nat) (s : Lf.S) (tg : Nat → Option Lf.Tg) (ins : List Ix.Stp) (p : Option Addr) (n cc : Nat), k ≤ l ∧ vi = .int .i64 (k : Int) ∧ vin = .slice p n cc ∧ n ≤ k ∧ Hid (n = ins.length) ∧ Hid (Ix.Sf W h wr tg pb pl s k ins ins (.slice p n cc) gv gx (.cells #[.int .i64 v.k, .int .i64 v.n, .float .f64 v.f, .string v.s] 34 (0, 0)) (.cells #[.int .i64 x.k, .int .i64 x.n, .float .f64 x.f, .string x.s] 34 (0, 0)))) (fun _ vi _ => l - (RowKit.intOf vi).toNat)
        case atStart => exact ⟨0, _, _, [], none, 0, 0, Nat.zero_le _, rfl, rfl, Nat.le_refl _, Mm.hid rfl, HS4⟩
        case round =>
          clear HS4
          obtain ⟨k, s, tg, ins, p, n, cc, hk, rfl, rfl, hnk, HN, HS⟩ := hrel
          by_cases hlt : k < l
          · obtain ⟨q, hq⟩ : ∃ q, zs[k]? = some q := ⟨zs[k]'(by rw [HZ.out.len]; exact hlt), List.getElem?_eq_getElem _⟩
            have HF := Mm.hid (HZ.out.fit k q hq)
            obtain ⟨b, o, ha, hbl, d⟩ := HZ.out.get HS.out.b hq
            subst ha
            obtain ⟨d0, d1, d2, d3, d4, d5, d6, d7, d8, d9⟩ := d
            have g1 : (0 : Int) ≤ (k : Int) := by omega
            have g2 : (k : Int) < (l : Int) := by omega
            have HKk : Hid (k ≤ 4000 ∧ n ≤ 1000) := Mm.hid (by omega)
            go_upto_region 9 with fail
            clear d0 d1 d2 d3 d4 d5 d6 d7 d8 d9 hq
            obtain ⟨gs, hgs⟩ : ∃ y, y = wr.heap.size := ⟨_, rfl⟩
            obtain ⟨ws, hws⟩ : ∃ y, wr.alloc (.cells #[.int .i64 q.kd, .int .i64 q.tid, .int .i64 q.v.k, .int .i64 q.v.n, .float .f64 q.v.f, .string q.v.s, .int .i64 q.x.k, .int .i64 q.x.n, .float .f64 q.x.f, .string q.x.s] 36) = y := ⟨_, rfl⟩
            rw [← hgs, hws]
            have HQs : Hid (Ix.Bx ws tg gs (.cells #[.int .i64 q.kd, .int .i64 q.tid, .int .i64 q.v.k, .int .i64 q.v.n, .float .f64 q.v.f, .string q.v.s, .int .i64 q.x.k, .int .i64 q.x.n, .float .f64 q.x.f, .string q.x.s] 36 (0, 0))) := Mm.hid ⟨by rw [← hws]; exact Mm.newAt _ _ hgs, HS.out.q.q.top _ (by omega)⟩
            have HSs : Hid (Ix.Sf W h ws tg pb pl s k ins ins (.slice p n cc) gv gx (.cells #[.int .i64 v.k, .int .i64 v.n, .float .f64 v.f, .string v.s] 34 (0, 0)) (.cells #[.int .i64 x.k, .int .i64 x.n, .float .f64 x.f, .string x.s] 34 (0, 0))) := Mm.hid (by rw [← hws]; exact HS.out.below ((Below.refl _ _).alloc (Nat.le_refl _) _))
            clear hws hgs HS hbl
            have d0 : ws.cell? ⟨gs, 0, none⟩ = some (.int .i64 q.kd) := Mm.cellOf HQs.out.at_ rfl
            have d1 : ws.cell? ⟨gs, 1, none⟩ = some (.int .i64 q.tid) := Mm.cellOf HQs.out.at_ rfl
            have d2 : ws.cell? ⟨gs, 2, none⟩ = some (.int .i64 q.v.k) := Mm.cellOf HQs.out.at_ rfl
            have d3 : ws.cell? ⟨gs, 3, none⟩ = some (.int .i64 q.v.n) := Mm.cellOf HQs.out.at_ rfl
            have d4 : ws.cell? ⟨gs, 4, none⟩ = some (.float .f64 q.v.f) := Mm.cellOf HQs.out.at_ rfl
            have d5 : ws.cell? ⟨gs, 5, none⟩ = some (.string q.v.s) := Mm.cellOf HQs.out.at_ rfl
            by_cases hkd : q.kd = 0
            · have hkq : (q.kd == 0) = true := by rw [hkd]; rfl
              clear hkd
              have HAD := Mm.hid (add_sf HSs HKk.out.1 HM.out q HF.out.1)
              go_wp2_with fail
              refine HAD.out.mono ?_
              rintro e wa ⟨l1, f1, t1, er, rfl, s', tg', hE, hy, hn⟩
              have HQa := Mm.hid (HQs.out.ev hE)
              have HY := Mm.hid (And.intro hy hn)
              clear hE hy hn HAD HSs HQs d0 d1 d2 d3 d4 d5 hkq
              by_cases her : er = 0
              · have HSa := Mm.hid (HY.out.1 her)
                subst her
                clear HY
                go_upto_region 12 with fail
                obtain ⟨wb, hwb⟩ : ∃ y, wa.alloc (.cells #[.int .i64 ((f1 : Nat) : Int), .int .i64 ((t1 : Nat) : Int)] 38) = y := ⟨_, rfl⟩
                rw [hwb]
                have HBab : Hid (Below wa.heap.size wa wb) := Mm.hid (by rw [← hwb]; exact (Below.refl _ _).alloc (Nat.le_refl _) _)
                have HQb := Mm.hid (HQa.out.below HBab.out)
                have HSb := Mm.hid (HSa.out.below HBab.out)
                have HLn : Hid (ins.length < 1000000) := Mm.hid (by have h1 := HN.out; have h2 := HKk.out.2; omega)
                clear hwb HQa HSa HBab
                have d0 : wb.cell? ⟨gs, 0, none⟩ = some (.int .i64 q.kd) := Mm.cellOf HQb.out.at_ rfl
                have d1 : wb.cell? ⟨gs, 1, none⟩ = some (.int .i64 q.tid) := Mm.cellOf HQb.out.at_ rfl
                have d2 : wb.cell? ⟨gs, 2, none⟩ = some (.int .i64 q.v.k) := Mm.cellOf HQb.out.at_ rfl
                have d3 : wb.cell? ⟨gs, 3, none⟩ = some (.int .i64 q.v.n) := Mm.cellOf HQb.out.at_ rfl
                have d4 : wb.cell? ⟨gs, 4, none⟩ = some (.float .f64 q.v.f) := Mm.cellOf HQb.out.at_ rfl
                have d5 : wb.cell? ⟨gs, 5, none⟩ = some (.string q.v.s) := Mm.cellOf HQb.out.at_ rfl
                have d6 : wb.cell? ⟨gs, 6, none⟩ = some (.int .i64 q.x.k) := Mm.cellOf HQb.out.at_ rfl
                have d7 : wb.cell? ⟨gs, 7, none⟩ = some (.int .i64 q.x.n) := Mm.cellOf HQb.out.at_ rfl
                have d8 : wb.cell? ⟨gs, 8, none⟩ = some (.float .f64 q.x.f) := Mm.cellOf HQb.out.at_ rfl
                have d9 : wb.cell? ⟨gs, 9, none⟩ = some (.string q.x.s) := Mm.cellOf HQb.out.at_ rfl
                go_wp2_with (at_builtin; refine Ix.appStep wb rfl _ _ rfl h (.slice p n cc) ins q rfl HSb.out.o _ rfl rfl HLn.out HSb.out.hk.2 ?_; intro v' wc h1 h2 h3; have HSc := Mm.hid (HSb.out.app h1 h2 h3); obtain ⟨p', c', e'⟩ := h1.shape; obtain ⟨n', hn'⟩ : ∃ y, y = (ins ++ [q]).length := ⟨_, rfl⟩; rw [← hn'] at e'; subst e'; have HN' := Mm.hid hn'; clear hn' h1 h2 h3)
                exact ⟨⟨k + 1, s', tg', ins ++ [q], p', n', c', by omega, by go_num, rfl, by (have h1 := HN'.out; rw [List.length_append, ← HN.out] at h1; have h2 : [q].length = 1 := rfl; omega), HN', HSc⟩, by simp [RowKit.intOf]; omega⟩
              · have HSa := Mm.hid (HY.out.2 her)
                have hbe : (((er : Nat) : Int) == 0) = false := beq_eq_false_iff_ne.2 (by omega)
                clear HY her
                go_wp2_with fail
                exact ⟨⟨k + 1, s', tg', ins, p, n, cc, by omega, by go_num, rfl, by omega, HN, Mm.hid (HSa.out.below ((Below.refl _ _).alloc (Nat.le_refl _) _))⟩, by simp [RowKit.intOf]; omega⟩
            · have hkq : (q.kd == 0) = false := beq_eq_false_iff_ne.2 hkd
              clear hkd
              have HDD := Mm.hid (drop_sf HSs HKk.out.1 HM.out q HF.out.1)
              go_wp2_with fail
              refine HDD.out.mono ?_
              rintro e wa ⟨vd, rfl, s', tg', hE, hS⟩
              have HQa := Mm.hid (HQs.out.ev hE)
              have HSa := Mm.hid hS
              clear hE hS HDD HSs HQs d0 d1 d2 d3 d4 d5 hkq
              go_wp2_with fail
              go_loopw [15, 16] (fun vst vm wq => ∃ (m : Nat) (p2 : Option Addr) (n2 c2 : Nat), m ≤ n ∧ vm = .int .i64 (m : Int) ∧ vst = .slice p2 n2 c2 ∧ n2 ≤ m ∧ Hid (n2 = ((ins.take m).filter (Ix.stayB q)).length) ∧ Hid (Below wa.heap.size wa wq ∧ Ix.OwS wq wa.heap.size (.slice p2 n2 c2) ((ins.take m).filter (Ix.stayB q)))) (fun _ vm _ => n - (RowKit.intOf vm).toNat)
              case atStart => exact ⟨0, none, 0, 0, Nat.zero_le _, rfl, rfl, Nat.le_refl _, Mm.hid rfl, Mm.hid ⟨Below.refl _ _, Ix.OwS.nil _ _⟩⟩
              case round =>
                obtain ⟨m, p2, n2, c2, hm, rfl, rfl, hnm, HN2, HO2⟩ := hrel
                by_cases hlm : m < n
                · obtain ⟨y, hy⟩ : ∃ y, ins[m]? = some y := ⟨ins[m]'(by rw [← HN.out]; exact hlm), List.getElem?_eq_getElem _⟩
                  have HTF := Mm.hid (Ix.take_fil (Ix.stayB q) hy)
                  obtain ⟨g, hg, hgl, d⟩ := HSa.out.o.at hy
                  subst hg
                  have HSK : Hid (∀ w', Below wa.heap.size wa w' → w'.cell? ⟨g, m * 10 + 1, none⟩ = some (.int .i64 y.tid) ∧ w'.cell? ⟨g, m * 10 + 2, none⟩ = some (.int .i64 y.v.k) ∧ w'.cell? ⟨g, m * 10 + 3, none⟩ = some (.int .i64 y.v.n) ∧ w'.cell? ⟨g, m * 10 + 4, none⟩ = some (.float .f64 y.v.f) ∧ w'.cell? ⟨g, m * 10 + 5, none⟩ = some (.string y.v.s) ∧ w'.cell? ⟨gs, 1, none⟩ = some (.int .i64 q.tid) ∧ w'.cell? ⟨gs, 2, none⟩ = some (.int .i64 q.v.k) ∧ w'.cell? ⟨gs, 3, none⟩ = some (.int .i64 q.v.n) ∧ w'.cell? ⟨gs, 4, none⟩ = some (.float .f64 q.v.f) ∧ w'.cell? ⟨gs, 5, none⟩ = some (.string q.v.s)) := Mm.hid (fun w' hw => by
                    have e := d.mono (hw.block g hgl)
                    have hs := (hw.block gs HQa.out.lt).trans HQa.out.at_
                    exact ⟨e.c1, e.c2, e.c3, e.c4, e.c5, Mm.cellOf hs rfl, Mm.cellOf hs rfl, Mm.cellOf hs rfl, Mm.cellOf hs rfl, Mm.cellOf hs rfl⟩)
                  have HDY : Hid (∀ w', Below wa.heap.size wa w' → Ix.C10 w' g (m * 10) y) := Mm.hid (fun w' hw => d.mono (hw.block g hgl))
                  have m1 : (0 : Int) ≤ (m : Int) := by omega
                  have m2 : (m : Int) < (n : Int) := by omega
                  have HM2 : Hid (((ins.take m).filter (Ix.stayB q)).length < 1000000 ∧ n2 ≤ 1000) := Mm.hid (by have h1 := HN2.out; have h2 := HKk.out.2; omega)
                  clear hy d hgl
                  by_cases ht : y.tid = q.tid
                  · have hb : (y.tid == q.tid) = true := beq_iff_eq.2 ht
                    have hbn : (y.tid != q.tid) = false := by rw [bne, hb]; rfl
                    cases hgd : Vl.goodB q.v.k q.v.n q.v.f q.v.s with
                    | false =>
                      have HSY : Hid (Ix.stayB q y = true) := Mm.hid (by unfold Ix.stayB; rw [hgd]; simp)
                      clear ht
                      go_upto_region 18 with fail
                      refine wp_region_held_drew (S := fun w' => w'.cell? ⟨g, m * 10 + 1, none⟩ = some (.int .i64 y.tid) ∧ w'.cell? ⟨g, m * 10 + 2, none⟩ = some (.int .i64 y.v.k) ∧ w'.cell? ⟨g, m * 10 + 3, none⟩ = some (.int .i64 y.v.n) ∧ w'.cell? ⟨g, m * 10 + 4, none⟩ = some (.float .f64 y.v.f) ∧ w'.cell? ⟨g, m * 10 + 5, none⟩ = some (.string y.v.s) ∧ w'.cell? ⟨gs, 1, none⟩ = some (.int .i64 q.tid) ∧ w'.cell? ⟨gs, 2, none⟩ = some (.int .i64 q.v.k) ∧ w'.cell? ⟨gs, 3, none⟩ = some (.int .i64 q.v.n) ∧ w'.cell? ⟨gs, 4, none⟩ = some (.float .f64 q.v.f) ∧ w'.cell? ⟨gs, 5, none⟩ = some (.string q.v.s)) (by kernel_rfl) (HSK.out _ (Below.drew HO2.out.1)) (fun hH => ?_)
                      refine wpAnyH_take (i := 0) (oi := ?or1x0) (v := ?vr1x0) ?hir1x0 ?hsr1x0 ?hfr1x0 ?hrr1x0 ?hQr1x0 (Or.inl ⟨?hwr1x0, ?hyr1x0⟩) ?hSr1x0 ?restr1x0
                      case hir1x0 => (simp; rfl)
                      case hsr1x0 => kernel_rfl
                      case hfr1x0 => kernel_rfl
                      case hrr1x0 => kernel_rfl
                      case hQr1x0 => exact fun _ _ _ h => h
                      case hwr1x0 => rfl
                      case hyr1x0 => (intro wq hSq; (try dsimp only at hSq); go_simp; (try with_reducible rfl))
                      case hSr1x0 => assumption
                      simp only [Act.put, List.setIfInBounds_toArray, List.set_cons_zero, List.set_cons_succ]
                      refine wpAnyH_take (i := 1) (oi := ?or1x1) (v := ?vr1x1) ?hir1x1 ?hsr1x1 ?hfr1x1 ?hrr1x1 ?hQr1x1 (Or.inl ⟨?hwr1x1, ?hyr1x1⟩) ?hSr1x1 ?restr1x1
                      case hir1x1 => (simp; rfl)
                      case hsr1x1 => kernel_rfl
                      case hfr1x1 => kernel_rfl
                      case hrr1x1 => kernel_rfl
                      case hQr1x1 => exact fun _ _ _ h => h
                      case hwr1x1 => rfl
                      case hyr1x1 => (intro wq hSq; (try dsimp only at hSq); go_simp; (try with_reducible rfl))
                      case hSr1x1 => assumption
                      simp only [Act.put, List.setIfInBounds_toArray, List.set_cons_zero, List.set_cons_succ]
                      refine wpAnyH_take (i := 2) (oi := ?or1x2) (v := ?vr1x2) ?hir1x2 ?hsr1x2 ?hfr1x2 ?hrr1x2 ?hQr1x2 (Or.inl ⟨?hwr1x2, ?hyr1x2⟩) ?hSr1x2 ?restr1x2
                      case hir1x2 => (simp; rfl)
                      case hsr1x2 => kernel_rfl
                      case hfr1x2 => kernel_rfl
                      case hrr1x2 => kernel_rfl
                      case hQr1x2 => exact fun _ _ _ h => h
                      case hwr1x2 => rfl
                      case hyr1x2 => (intro wq hSq; (try dsimp only at hSq); go_simp; (try with_reducible rfl))
                      case hSr1x2 => assumption
                      simp only [Act.put, List.setIfInBounds_toArray, List.set_cons_zero, List.set_cons_succ]
                      refine wpAnyH_take (i := 3) (oi := ?or1x3) (v := ?vr1x3) ?hir1x3 ?hsr1x3 ?hfr1x3 ?hrr1x3 ?hQr1x3 (Or.inl ⟨?hwr1x3, ?hyr1x3⟩) ?hSr1x3 ?restr1x3
                      case hir1x3 => (simp; rfl)
                      case hsr1x3 => kernel_rfl
                      case hfr1x3 => kernel_rfl
                      case hrr1x3 => kernel_rfl
                      case hQr1x3 => exact fun _ _ _ h => h
                      case hwr1x3 => rfl
                      case hyr1x3 => (intro wq hSq; (try dsimp only at hSq); go_simp; (try with_reducible rfl))
                      case hSr1x3 => assumption
                      simp only [Act.put, List.setIfInBounds_toArray, List.set_cons_zero, List.set_cons_succ]
                      refine wpAnyH_take (i := 4) (oi := ?or1x4) (v := ?vr1x4) ?hir1x4 ?hsr1x4 ?hfr1x4 ?hrr1x4 ?hQr1x4 (Or.inl ⟨?hwr1x4, ?hyr1x4⟩) ?hSr1x4 ?restr1x4
                      case hir1x4 => (simp; rfl)
                      case hsr1x4 => kernel_rfl
                      case hfr1x4 => kernel_rfl
                      case hrr1x4 => kernel_rfl
                      case hQr1x4 => exact fun _ _ _ h => h
                      case hwr1x4 => rfl
                      case hyr1x4 => (intro wq hSq; (try dsimp only at hSq); go_simp; (try with_reducible rfl))
                      case hSr1x4 => assumption
                      simp only [Act.put, List.setIfInBounds_toArray, List.set_cons_zero, List.set_cons_succ]
                      refine wpAnyH_take (i := 5) (oi := ?or1x5) (v := ?vr1x5) ?hir1x5 ?hsr1x5 ?hfr1x5 ?hrr1x5 ?hQr1x5 (Or.inl ⟨?hwr1x5, ?hyr1x5⟩) ?hSr1x5 ?restr1x5
                      case hir1x5 => (simp; rfl)
                      case hsr1x5 => kernel_rfl
                      case hfr1x5 => kernel_rfl
                      case hrr1x5 => kernel_rfl
                      case hQr1x5 => exact fun _ _ _ h => h
                      case hwr1x5 => rfl
                      case hyr1x5 => (intro wq hSq; (try dsimp only at hSq); go_simp; (try with_reducible rfl))
                      case hSr1x5 => assumption
                      simp only [Act.put, List.setIfInBounds_toArray, List.set_cons_zero, List.set_cons_succ]
                      refine wpAnyH_take (i := 6) (oi := ?or1x6) (v := ?vr1x6) ?hir1x6 ?hsr1x6 ?hfr1x6 ?hrr1x6 ?hQr1x6 (Or.inl ⟨?hwr1x6, ?hyr1x6⟩) ?hSr1x6 ?restr1x6
                      case hir1x6 => (simp; rfl)
                      case hsr1x6 => kernel_rfl
                      case hfr1x6 => kernel_rfl
                      case hrr1x6 => kernel_rfl
                      case hQr1x6 => exact fun _ _ _ h => h
                      case hwr1x6 => rfl
                      case hyr1x6 => (intro wq hSq; (try dsimp only at hSq); go_simp; (try with_reducible rfl))
                      case hSr1x6 => assumption
                      simp only [Act.put, List.setIfInBounds_toArray, List.set_cons_zero, List.set_cons_succ]
                      refine wpAnyH_take (i := 7) (oi := ?or1x7) (v := ?vr1x7) ?hir1x7 ?hsr1x7 ?hfr1x7 ?hrr1x7 ?hQr1x7 (Or.inl ⟨?hwr1x7, ?hyr1x7⟩) ?hSr1x7 ?restr1x7
                      case hir1x7 => (simp; rfl)
                      case hsr1x7 => kernel_rfl
                      case hfr1x7 => kernel_rfl
                      case hrr1x7 => kernel_rfl
                      case hQr1x7 => exact fun _ _ _ h => h
                      case hwr1x7 => rfl
                      case hyr1x7 => (intro wq hSq; (try dsimp only at hSq); go_simp; (try with_reducible rfl))
                      case hSr1x7 => assumption
                      simp only [Act.put, List.setIfInBounds_toArray, List.set_cons_zero, List.set_cons_succ]
                      refine wpAnyH_take (i := 8) (oi := ?or1x8) (v := ?vr1x8) ?hir1x8 ?hsr1x8 ?hfr1x8 ?hrr1x8 ?hQr1x8 (Or.inl ⟨?hwr1x8, ?hyr1x8⟩) ?hSr1x8 ?restr1x8
                      case hir1x8 => (simp; rfl)
                      case hsr1x8 => kernel_rfl
                      case hfr1x8 => kernel_rfl
                      case hrr1x8 => kernel_rfl
                      case hQr1x8 => exact fun _ _ _ h => h
                      case hwr1x8 => rfl
                      case hyr1x8 => (intro wq hSq; (try dsimp only at hSq); go_simp; (try with_reducible rfl))
                      case hSr1x8 => assumption
                      simp only [Act.put, List.setIfInBounds_toArray, List.set_cons_zero, List.set_cons_succ]
                      refine wpAnyH_take (i := 9) (oi := ?or1x9) (v := ?vr1x9) ?hir1x9 ?hsr1x9 ?hfr1x9 ?hrr1x9 ?hQr1x9 (Or.inl ⟨?hwr1x9, ?hyr1x9⟩) ?hSr1x9 ?restr1x9
                      case hir1x9 => (simp; rfl)
                      case hsr1x9 => kernel_rfl
                      case hfr1x9 => kernel_rfl
                      case hrr1x9 => kernel_rfl
                      case hQr1x9 => exact fun _ _ _ h => h
                      case hwr1x9 => rfl
                      case hyr1x9 => (intro wq hSq; (try dsimp only at hSq); go_simp; (try with_reducible rfl))
                      case hSr1x9 => assumption
                      simp only [Act.put, List.setIfInBounds_toArray, List.set_cons_zero, List.set_cons_succ]
                      refine wpAnyH_take (i := 10) (oi := ?or1x10) (v := ?vr1x10) ?hir1x10 ?hsr1x10 ?hfr1x10 ?hrr1x10 ?hQr1x10 (Or.inl ⟨?hwr1x10, ?hyr1x10⟩) ?hSr1x10 ?restr1x10
                      case hir1x10 => (simp; rfl)
                      case hsr1x10 => kernel_rfl
                      case hfr1x10 => kernel_rfl
                      case hrr1x10 => kernel_rfl
                      case hQr1x10 => exact fun _ _ _ h => h
                      case hwr1x10 => rfl
                      case hyr1x10 => (intro wq hSq; (try dsimp only at hSq); go_simp; (try with_reducible rfl))
                      case hSr1x10 => assumption
                      simp only [Act.put, List.setIfInBounds_toArray, List.set_cons_zero, List.set_cons_succ]
                      refine wpAnyH_ready (rs := [11]) (by kernel_rfl) (by simp) ?_
                      refine AllReadyH.cons (o := ?or1x11) ?hir1x11 (fun K hK => ?_) AllReadyH.nil
                      case hir1x11 => (simp; rfl)
                      go_simp
                      refine (refGood_any q.v.k q.v.n q.v.f q.v.s _).mono ?_
                      rintro e wz1 ⟨rfl, hb9⟩
                      have hy1 : Hid (Below wr.heap.size wr wz1) := Mm.hid ((Below.drew (Below.refl _ wr)).trans hb9)
                      have hx1 : Hid (Below wa.heap.size wa wz1) := Mm.hid (Vl.btr HO2.out.1 hy1.out)
                      clear hb9
                      go_wp2_with fail
                      refine hK.out _ _ (HSK.out _ hx1.out) (fun hHr1x11 => ?_)
                      clear hK K
                      refine wpAnyH_take (i := 12) (oi := ?or1x12) (v := ?vr1x12) ?hir1x12 ?hsr1x12 ?hfr1x12 ?hrr1x12 ?hQr1x12 (Or.inl ⟨?hwr1x12, ?hyr1x12⟩) ?hSr1x12 ?restr1x12
                      case hir1x12 => (simp; rfl)
                      case hsr1x12 => kernel_rfl
                      case hfr1x12 => kernel_rfl
                      case hrr1x12 => kernel_rfl
                      case hQr1x12 => exact fun _ _ _ h => h
                      case hwr1x12 => rfl
                      case hyr1x12 => (intro wq hSq; (try dsimp only at hSq); go_simp; (try with_reducible rfl))
                      case hSr1x12 => assumption
                      simp only [Act.put, List.setIfInBounds_toArray, List.set_cons_zero, List.set_cons_succ]
                      refine wpAnyH_take (i := 13) (oi := ?or1x13) (v := ?vr1x13) ?hir1x13 ?hsr1x13 ?hfr1x13 ?hrr1x13 ?hQr1x13 (Or.inl ⟨?hwr1x13, ?hyr1x13⟩) ?hSr1x13 ?restr1x13
                      case hir1x13 => (simp; rfl)
                      case hsr1x13 => kernel_rfl
                      case hfr1x13 => kernel_rfl
                      case hrr1x13 => kernel_rfl
                      case hQr1x13 => exact fun _ _ _ h => h
                      case hwr1x13 => rfl
                      case hyr1x13 => (intro wq hSq; (try dsimp only at hSq); go_simp; (try with_reducible rfl))
                      case hSr1x13 => assumption
                      simp only [Act.put, List.setIfInBounds_toArray, List.set_cons_zero, List.set_cons_succ]
                      refine wpAnyH_take (i := 14) (oi := ?or1x14) (v := ?vr1x14) ?hir1x14 ?hsr1x14 ?hfr1x14 ?hrr1x14 ?hQr1x14 (Or.inl ⟨?hwr1x14, ?hyr1x14⟩) ?hSr1x14 ?restr1x14
                      case hir1x14 => (simp; rfl)
                      case hsr1x14 => kernel_rfl
                      case hfr1x14 => kernel_rfl
                      case hrr1x14 => kernel_rfl
                      case hQr1x14 => exact fun _ _ _ h => h
                      case hwr1x14 => rfl
                      case hyr1x14 => (intro wq hSq; (try dsimp only at hSq); go_simp; (try with_reducible rfl))
                      case hSr1x14 => assumption
                      simp only [Act.put, List.setIfInBounds_toArray, List.set_cons_zero, List.set_cons_succ]
                      refine wpAnyH_take (i := 15) (oi := ?or1x15) (v := undef) ?hir1x15 ?hsr1x15 ?hfr1x15 ?hrr1x15 ?hQr1x15 (Or.inr ⟨?hwr1x15, rfl⟩) ?hSr1x15 ?restr1x15
                      case hir1x15 => (simp; rfl)
                      case hsr1x15 => kernel_rfl
                      case hfr1x15 => kernel_rfl
                      case hrr1x15 => kernel_rfl
                      case hQr1x15 => exact fun _ _ _ h => h
                      case hwr1x15 => rfl
                      case hSr1x15 => assumption
                      simp only [Act.put, List.setIfInBounds_toArray, List.set_cons_zero, List.set_cons_succ]
                      refine wpAnyH_take (i := 16) (oi := ?or1x16) (v := undef) ?hir1x16 ?hsr1x16 ?hfr1x16 ?hrr1x16 ?hQr1x16 (Or.inr ⟨?hwr1x16, rfl⟩) ?hSr1x16 ?restr1x16
                      case hir1x16 => (simp; rfl)
                      case hsr1x16 => kernel_rfl
                      case hfr1x16 => kernel_rfl
                      case hrr1x16 => kernel_rfl
                      case hQr1x16 => exact fun _ _ _ h => h
                      case hwr1x16 => rfl
                      case hSr1x16 => assumption
                      simp only [Act.put, List.setIfInBounds_toArray, List.set_cons_zero, List.set_cons_succ]
                      refine wpAnyH_take (i := 17) (oi := ?or1x17) (v := undef) ?hir1x17 ?hsr1x17 ?hfr1x17 ?hrr1x17 ?hQr1x17 (Or.inr ⟨?hwr1x17, rfl⟩) ?hSr1x17 ?restr1x17
                      case hir1x17 => (simp; rfl)
                      case hsr1x17 => kernel_rfl
                      case hfr1x17 => kernel_rfl
                      case hrr1x17 => kernel_rfl
                      case hQr1x17 => exact fun _ _ _ h => h
                      case hwr1x17 => rfl
                      case hSr1x17 => assumption
                      simp only [Act.put, List.setIfInBounds_toArray, List.set_cons_zero, List.set_cons_succ]
                      refine wpAnyH_take (i := 18) (oi := ?or1x18) (v := undef) ?hir1x18 ?hsr1x18 ?hfr1x18 ?hrr1x18 ?hQr1x18 (Or.inr ⟨?hwr1x18, rfl⟩) ?hSr1x18 ?restr1x18
                      case hir1x18 => (simp; rfl)
                      case hsr1x18 => kernel_rfl
                      case hfr1x18 => kernel_rfl
                      case hrr1x18 => kernel_rfl
                      case hQr1x18 => exact fun _ _ _ h => h
                      case hwr1x18 => rfl
                      case hSr1x18 => assumption
                      simp only [Act.put, List.setIfInBounds_toArray, List.set_cons_zero, List.set_cons_succ]
                      refine wpAnyH_take (i := 19) (oi := ?or1x19) (v := undef) ?hir1x19 ?hsr1x19 ?hfr1x19 ?hrr1x19 ?hQr1x19 (Or.inr ⟨?hwr1x19, rfl⟩) ?hSr1x19 ?restr1x19
                      case hir1x19 => (simp; rfl)
                      case hsr1x19 => kernel_rfl
                      case hfr1x19 => kernel_rfl
                      case hrr1x19 => kernel_rfl
                      case hQr1x19 => exact fun _ _ _ h => h
                      case hwr1x19 => rfl
                      case hSr1x19 => assumption
                      simp only [Act.put, List.setIfInBounds_toArray, List.set_cons_zero, List.set_cons_succ]
                      refine wpAnyH_take (i := 20) (oi := ?or1x20) (v := undef) ?hir1x20 ?hsr1x20 ?hfr1x20 ?hrr1x20 ?hQr1x20 (Or.inr ⟨?hwr1x20, rfl⟩) ?hSr1x20 ?restr1x20
                      case hir1x20 => (simp; rfl)
                      case hsr1x20 => kernel_rfl
                      case hfr1x20 => kernel_rfl
                      case hrr1x20 => kernel_rfl
                      case hQr1x20 => exact fun _ _ _ h => h
                      case hwr1x20 => rfl
                      case hSr1x20 => assumption
                      simp only [Act.put, List.setIfInBounds_toArray, List.set_cons_zero, List.set_cons_succ]
                      refine wpAnyH_take (i := 21) (oi := ?or1x21) (v := undef) ?hir1x21 ?hsr1x21 ?hfr1x21 ?hrr1x21 ?hQr1x21 (Or.inr ⟨?hwr1x21, rfl⟩) ?hSr1x21 ?restr1x21
                      case hir1x21 => (simp; rfl)
                      case hsr1x21 => kernel_rfl
                      case hfr1x21 => kernel_rfl
                      case hrr1x21 => kernel_rfl
                      case hQr1x21 => exact fun _ _ _ h => h
                      case hwr1x21 => rfl
                      case hSr1x21 => assumption
                      simp only [Act.put, List.setIfInBounds_toArray, List.set_cons_zero, List.set_cons_succ]
                      refine wpAnyH_take (i := 22) (oi := ?or1x22) (v := undef) ?hir1x22 ?hsr1x22 ?hfr1x22 ?hrr1x22 ?hQr1x22 (Or.inr ⟨?hwr1x22, rfl⟩) ?hSr1x22 ?restr1x22
                      case hir1x22 => (simp; rfl)
                      case hsr1x22 => kernel_rfl
                      case hfr1x22 => kernel_rfl
                      case hrr1x22 => kernel_rfl
                      case hQr1x22 => exact fun _ _ _ h => h
                      case hwr1x22 => rfl
                      case hSr1x22 => assumption
                      simp only [Act.put, List.setIfInBounds_toArray, List.set_cons_zero, List.set_cons_succ]
                      refine wpAnyH_take (i := 23) (oi := ?or1x23) (v := undef) ?hir1x23 ?hsr1x23 ?hfr1x23 ?hrr1x23 ?hQr1x23 (Or.inr ⟨?hwr1x23, rfl⟩) ?hSr1x23 ?restr1x23
                      case hir1x23 => (simp; rfl)
                      case hsr1x23 => kernel_rfl
                      case hfr1x23 => kernel_rfl
                      case hrr1x23 => kernel_rfl
                      case hQr1x23 => exact fun _ _ _ h => h
                      case hwr1x23 => rfl
                      case hSr1x23 => assumption
                      simp only [Act.put, List.setIfInBounds_toArray, List.set_cons_zero, List.set_cons_succ]
                      refine wpAnyH_take (i := 24) (oi := ?or1x24) (v := ?vr1x24) ?hir1x24 ?hsr1x24 ?hfr1x24 ?hrr1x24 ?hQr1x24 (Or.inl ⟨?hwr1x24, ?hyr1x24⟩) ?hSr1x24 ?restr1x24
                      case hir1x24 => (simp; rfl)
                      case hsr1x24 => kernel_rfl
                      case hfr1x24 => kernel_rfl
                      case hrr1x24 => kernel_rfl
                      case hQr1x24 => exact fun _ _ _ h => h
                      case hwr1x24 => rfl
                      case hyr1x24 => (intro wq hSq; (try dsimp only at hSq); go_simp; (try with_reducible rfl))
                      case hSr1x24 => assumption
                      simp only [Act.put, List.setIfInBounds_toArray, List.set_cons_zero, List.set_cons_succ]
                      refine wpAnyH_done (by kernel_rfl) ?_ _
                      have hx1x : Below wr.heap.size wr wz1 := hy1.out
                      have HDW := HDY.out _ hx1.out
                      obtain ⟨y0, y1, y2, y3, y4, y5, y6, y7, y8, y9⟩ := HDW
                      have HOw := Mm.hid (HO2.out.2.below (hx1x))
                      go_wp2_with (at_builtin; refine Ix.appStep _ rfl _ _ rfl wa.heap.size (.slice p2 n2 c2) _ y rfl HOw.out _ rfl rfl HM2.out.1 hx1.out.size ?_; intro v' wc h1 h2 h3; have HBc := Mm.hid (Below.grown hx1.out h2 hx1.out.size (fun g hg => (HOw.out.lt hg).2)); have HOc := Mm.hid h1; obtain ⟨p', c', e'⟩ := h1.shape; obtain ⟨n', hn'⟩ : ∃ z, z = (((ins.take m).filter (Ix.stayB q)) ++ [y]).length := ⟨_, rfl⟩; rw [← hn'] at e'; subst e'; have HN' := Mm.hid hn'; clear hn' h1 h2 h3)
                      have hts : (ins.take (m + 1)).filter (Ix.stayB q) = (ins.take m).filter (Ix.stayB q) ++ [y] := by rw [HTF.out, if_pos HSY.out]
                      exact ⟨⟨m + 1, p', n', c', by omega, by go_num, rfl, by (have h1 := HN'.out; rw [List.length_append, ← HN2.out] at h1; have h2 : [y].length = 1 := rfl; omega), by (rw [hts]; exact HN'), by (rw [hts]; exact Mm.hid ⟨HBc.out, HOc.out⟩)⟩, by simp [RowKit.intOf]; omega⟩
                    | true =>
                      by_cases hc0 : Vl.cmpV y.v q.v = 0
                      · have HSY : Hid (¬ Ix.stayB q y = true) := Mm.hid (by unfold Ix.stayB; rw [hgd, hc0, decide_eq_false (fun h => h ht)]; simp)
                        have hC := hc0
                        clear ht hc0
                        go_upto_region 18 with fail
                        refine wp_region_held_drew (S := fun w' => w'.cell? ⟨g, m * 10 + 1, none⟩ = some (.int .i64 y.tid) ∧ w'.cell? ⟨g, m * 10 + 2, none⟩ = some (.int .i64 y.v.k) ∧ w'.cell? ⟨g, m * 10 + 3, none⟩ = some (.int .i64 y.v.n) ∧ w'.cell? ⟨g, m * 10 + 4, none⟩ = some (.float .f64 y.v.f) ∧ w'.cell? ⟨g, m * 10 + 5, none⟩ = some (.string y.v.s) ∧ w'.cell? ⟨gs, 1, none⟩ = some (.int .i64 q.tid) ∧ w'.cell? ⟨gs, 2, none⟩ = some (.int .i64 q.v.k) ∧ w'.cell? ⟨gs, 3, none⟩ = some (.int .i64 q.v.n) ∧ w'.cell? ⟨gs, 4, none⟩ = some (.float .f64 q.v.f) ∧ w'.cell? ⟨gs, 5, none⟩ = some (.string q.v.s)) (by kernel_rfl) (HSK.out _ (Below.drew HO2.out.1)) (fun hH => ?_)
                        refine wpAnyH_take (i := 0) (oi := ?or2x0) (v := ?vr2x0) ?hir2x0 ?hsr2x0 ?hfr2x0 ?hrr2x0 ?hQr2x0 (Or.inl ⟨?hwr2x0, ?hyr2x0⟩) ?hSr2x0 ?restr2x0
                        case hir2x0 => (simp; rfl)
                        case hsr2x0 => kernel_rfl
                        case hfr2x0 => kernel_rfl
                        case hrr2x0 => kernel_rfl
                        case hQr2x0 => exact fun _ _ _ h => h
                        case hwr2x0 => rfl
                        case hyr2x0 => (intro wq hSq; (try dsimp only at hSq); go_simp; (try with_reducible rfl))
                        case hSr2x0 => assumption
                        simp only [Act.put, List.setIfInBounds_toArray, List.set_cons_zero, List.set_cons_succ]
                        refine wpAnyH_take (i := 1) (oi := ?or2x1) (v := ?vr2x1) ?hir2x1 ?hsr2x1 ?hfr2x1 ?hrr2x1 ?hQr2x1 (Or.inl ⟨?hwr2x1, ?hyr2x1⟩) ?hSr2x1 ?restr2x1
                        case hir2x1 => (simp; rfl)
                        case hsr2x1 => kernel_rfl
                        case hfr2x1 => kernel_rfl
                        case hrr2x1 => kernel_rfl
                        case hQr2x1 => exact fun _ _ _ h => h
                        case hwr2x1 => rfl
                        case hyr2x1 => (intro wq hSq; (try dsimp only at hSq); go_simp; (try with_reducible rfl))
                        case hSr2x1 => assumption
                        simp only [Act.put, List.setIfInBounds_toArray, List.set_cons_zero, List.set_cons_succ]
                        refine wpAnyH_take (i := 2) (oi := ?or2x2) (v := ?vr2x2) ?hir2x2 ?hsr2x2 ?hfr2x2 ?hrr2x2 ?hQr2x2 (Or.inl ⟨?hwr2x2, ?hyr2x2⟩) ?hSr2x2 ?restr2x2
                        case hir2x2 => (simp; rfl)
                        case hsr2x2 => kernel_rfl
                        case hfr2x2 => kernel_rfl
                        case hrr2x2 => kernel_rfl
                        case hQr2x2 => exact fun _ _ _ h => h
                        case hwr2x2 => rfl
                        case hyr2x2 => (intro wq hSq; (try dsimp only at hSq); go_simp; (try with_reducible rfl))
                        case hSr2x2 => assumption
                        simp only [Act.put, List.setIfInBounds_toArray, List.set_cons_zero, List.set_cons_succ]
                        refine wpAnyH_take (i := 3) (oi := ?or2x3) (v := ?vr2x3) ?hir2x3 ?hsr2x3 ?hfr2x3 ?hrr2x3 ?hQr2x3 (Or.inl ⟨?hwr2x3, ?hyr2x3⟩) ?hSr2x3 ?restr2x3
                        case hir2x3 => (simp; rfl)
                        case hsr2x3 => kernel_rfl
                        case hfr2x3 => kernel_rfl
                        case hrr2x3 => kernel_rfl
                        case hQr2x3 => exact fun _ _ _ h => h
                        case hwr2x3 => rfl
                        case hyr2x3 => (intro wq hSq; (try dsimp only at hSq); go_simp; (try with_reducible rfl))
                        case hSr2x3 => assumption
                        simp only [Act.put, List.setIfInBounds_toArray, List.set_cons_zero, List.set_cons_succ]
                        refine wpAnyH_take (i := 4) (oi := ?or2x4) (v := ?vr2x4) ?hir2x4 ?hsr2x4 ?hfr2x4 ?hrr2x4 ?hQr2x4 (Or.inl ⟨?hwr2x4, ?hyr2x4⟩) ?hSr2x4 ?restr2x4
                        case hir2x4 => (simp; rfl)
                        case hsr2x4 => kernel_rfl
                        case hfr2x4 => kernel_rfl
                        case hrr2x4 => kernel_rfl
                        case hQr2x4 => exact fun _ _ _ h => h
                        case hwr2x4 => rfl
                        case hyr2x4 => (intro wq hSq; (try dsimp only at hSq); go_simp; (try with_reducible rfl))
                        case hSr2x4 => assumption
                        simp only [Act.put, List.setIfInBounds_toArray, List.set_cons_zero, List.set_cons_succ]
                        refine wpAnyH_take (i := 5) (oi := ?or2x5) (v := ?vr2x5) ?hir2x5 ?hsr2x5 ?hfr2x5 ?hrr2x5 ?hQr2x5 (Or.inl ⟨?hwr2x5, ?hyr2x5⟩) ?hSr2x5 ?restr2x5
                        case hir2x5 => (simp; rfl)
                        case hsr2x5 => kernel_rfl
                        case hfr2x5 => kernel_rfl
                        case hrr2x5 => kernel_rfl
                        case hQr2x5 => exact fun _ _ _ h => h
                        case hwr2x5 => rfl
                        case hyr2x5 => (intro wq hSq; (try dsimp only at hSq); go_simp; (try with_reducible rfl))
                        case hSr2x5 => assumption
                        simp only [Act.put, List.setIfInBounds_toArray, List.set_cons_zero, List.set_cons_succ]
                        refine wpAnyH_take (i := 6) (oi := ?or2x6) (v := ?vr2x6) ?hir2x6 ?hsr2x6 ?hfr2x6 ?hrr2x6 ?hQr2x6 (Or.inl ⟨?hwr2x6, ?hyr2x6⟩) ?hSr2x6 ?restr2x6
                        case hir2x6 => (simp; rfl)
                        case hsr2x6 => kernel_rfl
                        case hfr2x6 => kernel_rfl
                        case hrr2x6 => kernel_rfl
                        case hQr2x6 => exact fun _ _ _ h => h
                        case hwr2x6 => rfl
                        case hyr2x6 => (intro wq hSq; (try dsimp only at hSq); go_simp; (try with_reducible rfl))
                        case hSr2x6 => assumption
                        simp only [Act.put, List.setIfInBounds_toArray, List.set_cons_zero, List.set_cons_succ]
                        refine wpAnyH_take (i := 7) (oi := ?or2x7) (v := ?vr2x7) ?hir2x7 ?hsr2x7 ?hfr2x7 ?hrr2x7 ?hQr2x7 (Or.inl ⟨?hwr2x7, ?hyr2x7⟩) ?hSr2x7 ?restr2x7
                        case hir2x7 => (simp; rfl)
                        case hsr2x7 => kernel_rfl
                        case hfr2x7 => kernel_rfl
                        case hrr2x7 => kernel_rfl
                        case hQr2x7 => exact fun _ _ _ h => h
                        case hwr2x7 => rfl
                        case hyr2x7 => (intro wq hSq; (try dsimp only at hSq); go_simp; (try with_reducible rfl))
                        case hSr2x7 => assumption
                        simp only [Act.put, List.setIfInBounds_toArray, List.set_cons_zero, List.set_cons_succ]
                        refine wpAnyH_take (i := 8) (oi := ?or2x8) (v := ?vr2x8) ?hir2x8 ?hsr2x8 ?hfr2x8 ?hrr2x8 ?hQr2x8 (Or.inl ⟨?hwr2x8, ?hyr2x8⟩) ?hSr2x8 ?restr2x8
                        case hir2x8 => (simp; rfl)
                        case hsr2x8 => kernel_rfl
                        case hfr2x8 => kernel_rfl
                        case hrr2x8 => kernel_rfl
                        case hQr2x8 => exact fun _ _ _ h => h
                        case hwr2x8 => rfl
                        case hyr2x8 => (intro wq hSq; (try dsimp only at hSq); go_simp; (try with_reducible rfl))
                        case hSr2x8 => assumption
                        simp only [Act.put, List.setIfInBounds_toArray, List.set_cons_zero, List.set_cons_succ]
                        refine wpAnyH_take (i := 9) (oi := ?or2x9) (v := ?vr2x9) ?hir2x9 ?hsr2x9 ?hfr2x9 ?hrr2x9 ?hQr2x9 (Or.inl ⟨?hwr2x9, ?hyr2x9⟩) ?hSr2x9 ?restr2x9
                        case hir2x9 => (simp; rfl)
                        case hsr2x9 => kernel_rfl
                        case hfr2x9 => kernel_rfl
                        case hrr2x9 => kernel_rfl
                        case hQr2x9 => exact fun _ _ _ h => h
                        case hwr2x9 => rfl
                        case hyr2x9 => (intro wq hSq; (try dsimp only at hSq); go_simp; (try with_reducible rfl))
                        case hSr2x9 => assumption
                        simp only [Act.put, List.setIfInBounds_toArray, List.set_cons_zero, List.set_cons_succ]
                        refine wpAnyH_take (i := 10) (oi := ?or2x10) (v := ?vr2x10) ?hir2x10 ?hsr2x10 ?hfr2x10 ?hrr2x10 ?hQr2x10 (Or.inl ⟨?hwr2x10, ?hyr2x10⟩) ?hSr2x10 ?restr2x10
                        case hir2x10 => (simp; rfl)
                        case hsr2x10 => kernel_rfl
                        case hfr2x10 => kernel_rfl
                        case hrr2x10 => kernel_rfl
                        case hQr2x10 => exact fun _ _ _ h => h
                        case hwr2x10 => rfl
                        case hyr2x10 => (intro wq hSq; (try dsimp only at hSq); go_simp; (try with_reducible rfl))
                        case hSr2x10 => assumption
                        simp only [Act.put, List.setIfInBounds_toArray, List.set_cons_zero, List.set_cons_succ]
                        refine wpAnyH_ready (rs := [11]) (by kernel_rfl) (by simp) ?_
                        refine AllReadyH.cons (o := ?or2x11) ?hir2x11 (fun K hK => ?_) AllReadyH.nil
                        case hir2x11 => (simp; rfl)
                        go_simp
                        refine (refGood_any q.v.k q.v.n q.v.f q.v.s _).mono ?_
                        rintro e wz1 ⟨rfl, hb9⟩
                        have hy1 : Hid (Below wr.heap.size wr wz1) := Mm.hid ((Below.drew (Below.refl _ wr)).trans hb9)
                        have hx1 : Hid (Below wa.heap.size wa wz1) := Mm.hid (Vl.btr HO2.out.1 hy1.out)
                        clear hb9
                        go_wp2_with fail
                        refine hK.out _ _ (HSK.out _ hx1.out) (fun hHr2x11 => ?_)
                        clear hK K
                        refine wpAnyH_take (i := 12) (oi := ?or2x12) (v := ?vr2x12) ?hir2x12 ?hsr2x12 ?hfr2x12 ?hrr2x12 ?hQr2x12 (Or.inl ⟨?hwr2x12, ?hyr2x12⟩) ?hSr2x12 ?restr2x12
                        case hir2x12 => (simp; rfl)
                        case hsr2x12 => kernel_rfl
                        case hfr2x12 => kernel_rfl
                        case hrr2x12 => kernel_rfl
                        case hQr2x12 => exact fun _ _ _ h => h
                        case hwr2x12 => rfl
                        case hyr2x12 => (intro wq hSq; (try dsimp only at hSq); go_simp; (try with_reducible rfl))
                        case hSr2x12 => assumption
                        simp only [Act.put, List.setIfInBounds_toArray, List.set_cons_zero, List.set_cons_succ]
                        refine wpAnyH_take (i := 13) (oi := ?or2x13) (v := ?vr2x13) ?hir2x13 ?hsr2x13 ?hfr2x13 ?hrr2x13 ?hQr2x13 (Or.inl ⟨?hwr2x13, ?hyr2x13⟩) ?hSr2x13 ?restr2x13
                        case hir2x13 => (simp; rfl)
                        case hsr2x13 => kernel_rfl
                        case hfr2x13 => kernel_rfl
                        case hrr2x13 => kernel_rfl
                        case hQr2x13 => exact fun _ _ _ h => h
                        case hwr2x13 => rfl
                        case hyr2x13 => (intro wq hSq; (try dsimp only at hSq); go_simp; (try with_reducible rfl))
                        case hSr2x13 => assumption
                        simp only [Act.put, List.setIfInBounds_toArray, List.set_cons_zero, List.set_cons_succ]
                        refine wpAnyH_take (i := 14) (oi := ?or2x14) (v := ?vr2x14) ?hir2x14 ?hsr2x14 ?hfr2x14 ?hrr2x14 ?hQr2x14 (Or.inl ⟨?hwr2x14, ?hyr2x14⟩) ?hSr2x14 ?restr2x14
                        case hir2x14 => (simp; rfl)
                        case hsr2x14 => kernel_rfl
                        case hfr2x14 => kernel_rfl
                        case hrr2x14 => kernel_rfl
                        case hQr2x14 => exact fun _ _ _ h => h
                        case hwr2x14 => rfl
                        case hyr2x14 => (intro wq hSq; (try dsimp only at hSq); go_simp; (try with_reducible rfl))
                        case hSr2x14 => assumption
                        simp only [Act.put, List.setIfInBounds_toArray, List.set_cons_zero, List.set_cons_succ]
                        refine wpAnyH_take (i := 15) (oi := ?or2x15) (v := ?vr2x15) ?hir2x15 ?hsr2x15 ?hfr2x15 ?hrr2x15 ?hQr2x15 (Or.inl ⟨?hwr2x15, ?hyr2x15⟩) ?hSr2x15 ?restr2x15
                        case hir2x15 => (simp; rfl)
                        case hsr2x15 => kernel_rfl
                        case hfr2x15 => kernel_rfl
                        case hrr2x15 => kernel_rfl
                        case hQr2x15 => exact fun _ _ _ h => h
                        case hwr2x15 => rfl
                        case hyr2x15 => (intro wq hSq; (try dsimp only at hSq); go_simp; (try with_reducible rfl))
                        case hSr2x15 => assumption
                        simp only [Act.put, List.setIfInBounds_toArray, List.set_cons_zero, List.set_cons_succ]
                        refine wpAnyH_take (i := 16) (oi := ?or2x16) (v := ?vr2x16) ?hir2x16 ?hsr2x16 ?hfr2x16 ?hrr2x16 ?hQr2x16 (Or.inl ⟨?hwr2x16, ?hyr2x16⟩) ?hSr2x16 ?restr2x16
                        case hir2x16 => (simp; rfl)
                        case hsr2x16 => kernel_rfl
                        case hfr2x16 => kernel_rfl
                        case hrr2x16 => kernel_rfl
                        case hQr2x16 => exact fun _ _ _ h => h
                        case hwr2x16 => rfl
                        case hyr2x16 => (intro wq hSq; (try dsimp only at hSq); go_simp; (try with_reducible rfl))
                        case hSr2x16 => assumption
                        simp only [Act.put, List.setIfInBounds_toArray, List.set_cons_zero, List.set_cons_succ]
                        refine wpAnyH_take (i := 17) (oi := ?or2x17) (v := ?vr2x17) ?hir2x17 ?hsr2x17 ?hfr2x17 ?hrr2x17 ?hQr2x17 (Or.inl ⟨?hwr2x17, ?hyr2x17⟩) ?hSr2x17 ?restr2x17
                        case hir2x17 => (simp; rfl)
                        case hsr2x17 => kernel_rfl
                        case hfr2x17 => kernel_rfl
                        case hrr2x17 => kernel_rfl
                        case hQr2x17 => exact fun _ _ _ h => h
                        case hwr2x17 => rfl
                        case hyr2x17 => (intro wq hSq; (try dsimp only at hSq); go_simp; (try with_reducible rfl))
                        case hSr2x17 => assumption
                        simp only [Act.put, List.setIfInBounds_toArray, List.set_cons_zero, List.set_cons_succ]
                        refine wpAnyH_take (i := 18) (oi := ?or2x18) (v := ?vr2x18) ?hir2x18 ?hsr2x18 ?hfr2x18 ?hrr2x18 ?hQr2x18 (Or.inl ⟨?hwr2x18, ?hyr2x18⟩) ?hSr2x18 ?restr2x18
                        case hir2x18 => (simp; rfl)
                        case hsr2x18 => kernel_rfl
                        case hfr2x18 => kernel_rfl
                        case hrr2x18 => kernel_rfl
                        case hQr2x18 => exact fun _ _ _ h => h
                        case hwr2x18 => rfl
                        case hyr2x18 => (intro wq hSq; (try dsimp only at hSq); go_simp; (try with_reducible rfl))
                        case hSr2x18 => assumption
                        simp only [Act.put, List.setIfInBounds_toArray, List.set_cons_zero, List.set_cons_succ]
                        refine wpAnyH_take (i := 19) (oi := ?or2x19) (v := ?vr2x19) ?hir2x19 ?hsr2x19 ?hfr2x19 ?hrr2x19 ?hQr2x19 (Or.inl ⟨?hwr2x19, ?hyr2x19⟩) ?hSr2x19 ?restr2x19
                        case hir2x19 => (simp; rfl)
                        case hsr2x19 => kernel_rfl
                        case hfr2x19 => kernel_rfl
                        case hrr2x19 => kernel_rfl
                        case hQr2x19 => exact fun _ _ _ h => h
                        case hwr2x19 => rfl
                        case hyr2x19 => (intro wq hSq; (try dsimp only at hSq); go_simp; (try with_reducible rfl))
                        case hSr2x19 => assumption
                        simp only [Act.put, List.setIfInBounds_toArray, List.set_cons_zero, List.set_cons_succ]
                        refine wpAnyH_take (i := 20) (oi := ?or2x20) (v := ?vr2x20) ?hir2x20 ?hsr2x20 ?hfr2x20 ?hrr2x20 ?hQr2x20 (Or.inl ⟨?hwr2x20, ?hyr2x20⟩) ?hSr2x20 ?restr2x20
                        case hir2x20 => (simp; rfl)
                        case hsr2x20 => kernel_rfl
                        case hfr2x20 => kernel_rfl
                        case hrr2x20 => kernel_rfl
                        case hQr2x20 => exact fun _ _ _ h => h
                        case hwr2x20 => rfl
                        case hyr2x20 => (intro wq hSq; (try dsimp only at hSq); go_simp; (try with_reducible rfl))
                        case hSr2x20 => assumption
                        simp only [Act.put, List.setIfInBounds_toArray, List.set_cons_zero, List.set_cons_succ]
                        refine wpAnyH_take (i := 21) (oi := ?or2x21) (v := ?vr2x21) ?hir2x21 ?hsr2x21 ?hfr2x21 ?hrr2x21 ?hQr2x21 (Or.inl ⟨?hwr2x21, ?hyr2x21⟩) ?hSr2x21 ?restr2x21
                        case hir2x21 => (simp; rfl)
                        case hsr2x21 => kernel_rfl
                        case hfr2x21 => kernel_rfl
                        case hrr2x21 => kernel_rfl
                        case hQr2x21 => exact fun _ _ _ h => h
                        case hwr2x21 => rfl
                        case hyr2x21 => (intro wq hSq; (try dsimp only at hSq); go_simp; (try with_reducible rfl))
                        case hSr2x21 => assumption
                        simp only [Act.put, List.setIfInBounds_toArray, List.set_cons_zero, List.set_cons_succ]
                        refine wpAnyH_ready (rs := [22]) (by kernel_rfl) (by simp) ?_
                        refine AllReadyH.cons (o := ?or2x22) ?hir2x22 (fun K hK => ?_) AllReadyH.nil
                        case hir2x22 => (simp; rfl)
                        go_simp
                        refine (refCmpV_any y.v q.v _).mono ?_
                        rintro e wz2 ⟨rfl, hb9⟩
                        rw [hC]
                        have hy2 : Hid (Below wr.heap.size wr wz2) := Mm.hid (by rw [hb9]; exact (hy1.out.alloc hy1.out.size _).alloc (by have := hy1.out.size; simp; omega) _)
                        have hx2 : Hid (Below wa.heap.size wa wz2) := Mm.hid (Vl.btr HO2.out.1 hy2.out)
                        clear hb9
                        go_wp2_with fail
                        refine hK.out _ _ (HSK.out _ hx2.out) (fun hHr2x22 => ?_)
                        clear hK K
                        refine wpAnyH_take (i := 23) (oi := ?or2x23) (v := ?vr2x23) ?hir2x23 ?hsr2x23 ?hfr2x23 ?hrr2x23 ?hQr2x23 (Or.inl ⟨?hwr2x23, ?hyr2x23⟩) ?hSr2x23 ?restr2x23
                        case hir2x23 => (simp; rfl)
                        case hsr2x23 => kernel_rfl
                        case hfr2x23 => kernel_rfl
                        case hrr2x23 => kernel_rfl
                        case hQr2x23 => exact fun _ _ _ h => h
                        case hwr2x23 => rfl
                        case hyr2x23 => (intro wq hSq; (try dsimp only at hSq); go_simp; (try with_reducible rfl))
                        case hSr2x23 => assumption
                        simp only [Act.put, List.setIfInBounds_toArray, List.set_cons_zero, List.set_cons_succ]
                        refine wpAnyH_take (i := 24) (oi := ?or2x24) (v := ?vr2x24) ?hir2x24 ?hsr2x24 ?hfr2x24 ?hrr2x24 ?hQr2x24 (Or.inl ⟨?hwr2x24, ?hyr2x24⟩) ?hSr2x24 ?restr2x24
                        case hir2x24 => (simp; rfl)
                        case hsr2x24 => kernel_rfl
                        case hfr2x24 => kernel_rfl
                        case hrr2x24 => kernel_rfl
                        case hQr2x24 => exact fun _ _ _ h => h
                        case hwr2x24 => rfl
                        case hyr2x24 => (intro wq hSq; (try dsimp only at hSq); go_simp; (try with_reducible rfl))
                        case hSr2x24 => assumption
                        simp only [Act.put, List.setIfInBounds_toArray, List.set_cons_zero, List.set_cons_succ]
                        refine wpAnyH_done (by kernel_rfl) ?_ _
                        have hx2x : Below wr.heap.size wr wz2 := hy2.out
                        have hts : (ins.take (m + 1)).filter (Ix.stayB q) = (ins.take m).filter (Ix.stayB q) := by rw [HTF.out, if_neg HSY.out, List.append_nil]
                        have HOw := Mm.hid (And.intro hx2.out (HO2.out.2.below (hx2x)))
                        go_wp2_with fail
                        exact ⟨⟨m + 1, p2, n2, c2, by omega, by go_num, rfl, by omega, by (rw [hts]; exact HN2), by (rw [hts]; exact HOw)⟩, by simp [RowKit.intOf]; omega⟩
                      · have HSY : Hid (Ix.stayB q y = true) := Mm.hid (by unfold Ix.stayB; rw [decide_eq_true hc0]; simp)
                        obtain ⟨C, hC⟩ : ∃ C, Vl.cmpV y.v q.v = C := ⟨_, rfl⟩
                        have hCb : (C == 0) = false := beq_eq_false_iff_ne.2 (by rw [← hC]; exact hc0)
                        clear ht hc0
                        go_upto_region 18 with fail
                        refine wp_region_held_drew (S := fun w' => w'.cell? ⟨g, m * 10 + 1, none⟩ = some (.int .i64 y.tid) ∧ w'.cell? ⟨g, m * 10 + 2, none⟩ = some (.int .i64 y.v.k) ∧ w'.cell? ⟨g, m * 10 + 3, none⟩ = some (.int .i64 y.v.n) ∧ w'.cell? ⟨g, m * 10 + 4, none⟩ = some (.float .f64 y.v.f) ∧ w'.cell? ⟨g, m * 10 + 5, none⟩ = some (.string y.v.s) ∧ w'.cell? ⟨gs, 1, none⟩ = some (.int .i64 q.tid) ∧ w'.cell? ⟨gs, 2, none⟩ = some (.int .i64 q.v.k) ∧ w'.cell? ⟨gs, 3, none⟩ = some (.int .i64 q.v.n) ∧ w'.cell? ⟨gs, 4, none⟩ = some (.float .f64 q.v.f) ∧ w'.cell? ⟨gs, 5, none⟩ = some (.string q.v.s)) (by kernel_rfl) (HSK.out _ (Below.drew HO2.out.1)) (fun hH => ?_)
                        refine wpAnyH_take (i := 0) (oi := ?or3x0) (v := ?vr3x0) ?hir3x0 ?hsr3x0 ?hfr3x0 ?hrr3x0 ?hQr3x0 (Or.inl ⟨?hwr3x0, ?hyr3x0⟩) ?hSr3x0 ?restr3x0
                        case hir3x0 => (simp; rfl)
                        case hsr3x0 => kernel_rfl
                        case hfr3x0 => kernel_rfl
                        case hrr3x0 => kernel_rfl
                        case hQr3x0 => exact fun _ _ _ h => h
                        case hwr3x0 => rfl
                        case hyr3x0 => (intro wq hSq; (try dsimp only at hSq); go_simp; (try with_reducible rfl))
                        case hSr3x0 => assumption
                        simp only [Act.put, List.setIfInBounds_toArray, List.set_cons_zero, List.set_cons_succ]
                        refine wpAnyH_take (i := 1) (oi := ?or3x1) (v := ?vr3x1) ?hir3x1 ?hsr3x1 ?hfr3x1 ?hrr3x1 ?hQr3x1 (Or.inl ⟨?hwr3x1, ?hyr3x1⟩) ?hSr3x1 ?restr3x1
                        case hir3x1 => (simp; rfl)
                        case hsr3x1 => kernel_rfl
                        case hfr3x1 => kernel_rfl
                        case hrr3x1 => kernel_rfl
                        case hQr3x1 => exact fun _ _ _ h => h
                        case hwr3x1 => rfl
                        case hyr3x1 => (intro wq hSq; (try dsimp only at hSq); go_simp; (try with_reducible rfl))
                        case hSr3x1 => assumption
                        simp only [Act.put, List.setIfInBounds_toArray, List.set_cons_zero, List.set_cons_succ]
                        refine wpAnyH_take (i := 2) (oi := ?or3x2) (v := ?vr3x2) ?hir3x2 ?hsr3x2 ?hfr3x2 ?hrr3x2 ?hQr3x2 (Or.inl ⟨?hwr3x2, ?hyr3x2⟩) ?hSr3x2 ?restr3x2
                        case hir3x2 => (simp; rfl)
                        case hsr3x2 => kernel_rfl
                        case hfr3x2 => kernel_rfl
                        case hrr3x2 => kernel_rfl
                        case hQr3x2 => exact fun _ _ _ h => h
                        case hwr3x2 => rfl
                        case hyr3x2 => (intro wq hSq; (try dsimp only at hSq); go_simp; (try with_reducible rfl))
                        case hSr3x2 => assumption
                        simp only [Act.put, List.setIfInBounds_toArray, List.set_cons_zero, List.set_cons_succ]
                        refine wpAnyH_take (i := 3) (oi := ?or3x3) (v := ?vr3x3) ?hir3x3 ?hsr3x3 ?hfr3x3 ?hrr3x3 ?hQr3x3 (Or.inl ⟨?hwr3x3, ?hyr3x3⟩) ?hSr3x3 ?restr3x3
                        case hir3x3 => (simp; rfl)
                        case hsr3x3 => kernel_rfl
                        case hfr3x3 => kernel_rfl
                        case hrr3x3 => kernel_rfl
                        case hQr3x3 => exact fun _ _ _ h => h
                        case hwr3x3 => rfl
                        case hyr3x3 => (intro wq hSq; (try dsimp only at hSq); go_simp; (try with_reducible rfl))
                        case hSr3x3 => assumption
                        simp only [Act.put, List.setIfInBounds_toArray, List.set_cons_zero, List.set_cons_succ]
                        refine wpAnyH_take (i := 4) (oi := ?or3x4) (v := ?vr3x4) ?hir3x4 ?hsr3x4 ?hfr3x4 ?hrr3x4 ?hQr3x4 (Or.inl ⟨?hwr3x4, ?hyr3x4⟩) ?hSr3x4 ?restr3x4
                        case hir3x4 => (simp; rfl)
                        case hsr3x4 => kernel_rfl
                        case hfr3x4 => kernel_rfl
                        case hrr3x4 => kernel_rfl
                        case hQr3x4 => exact fun _ _ _ h => h
                        case hwr3x4 => rfl
                        case hyr3x4 => (intro wq hSq; (try dsimp only at hSq); go_simp; (try with_reducible rfl))
                        case hSr3x4 => assumption
                        simp only [Act.put, List.setIfInBounds_toArray, List.set_cons_zero, List.set_cons_succ]
                        refine wpAnyH_take (i := 5) (oi := ?or3x5) (v := ?vr3x5) ?hir3x5 ?hsr3x5 ?hfr3x5 ?hrr3x5 ?hQr3x5 (Or.inl ⟨?hwr3x5, ?hyr3x5⟩) ?hSr3x5 ?restr3x5
                        case hir3x5 => (simp; rfl)
                        case hsr3x5 => kernel_rfl
                        case hfr3x5 => kernel_rfl
                        case hrr3x5 => kernel_rfl
                        case hQr3x5 => exact fun _ _ _ h => h
                        case hwr3x5 => rfl
                        case hyr3x5 => (intro wq hSq; (try dsimp only at hSq); go_simp; (try with_reducible rfl))
                        case hSr3x5 => assumption
                        simp only [Act.put, List.setIfInBounds_toArray, List.set_cons_zero, List.set_cons_succ]
                        refine wpAnyH_take (i := 6) (oi := ?or3x6) (v := ?vr3x6) ?hir3x6 ?hsr3x6 ?hfr3x6 ?hrr3x6 ?hQr3x6 (Or.inl ⟨?hwr3x6, ?hyr3x6⟩) ?hSr3x6 ?restr3x6
                        case hir3x6 => (simp; rfl)
                        case hsr3x6 => kernel_rfl
                        case hfr3x6 => kernel_rfl
                        case hrr3x6 => kernel_rfl
                        case hQr3x6 => exact fun _ _ _ h => h
                        case hwr3x6 => rfl
                        case hyr3x6 => (intro wq hSq; (try dsimp only at hSq); go_simp; (try with_reducible rfl))
                        case hSr3x6 => assumption
                        simp only [Act.put, List.setIfInBounds_toArray, List.set_cons_zero, List.set_cons_succ]
                        refine wpAnyH_take (i := 7) (oi := ?or3x7) (v := ?vr3x7) ?hir3x7 ?hsr3x7 ?hfr3x7 ?hrr3x7 ?hQr3x7 (Or.inl ⟨?hwr3x7, ?hyr3x7⟩) ?hSr3x7 ?restr3x7
                        case hir3x7 => (simp; rfl)
                        case hsr3x7 => kernel_rfl
                        case hfr3x7 => kernel_rfl
                        case hrr3x7 => kernel_rfl
                        case hQr3x7 => exact fun _ _ _ h => h
                        case hwr3x7 => rfl
                        case hyr3x7 => (intro wq hSq; (try dsimp only at hSq); go_simp; (try with_reducible rfl))
                        case hSr3x7 => assumption
                        simp only [Act.put, List.setIfInBounds_toArray, List.set_cons_zero, List.set_cons_succ]
                        refine wpAnyH_take (i := 8) (oi := ?or3x8) (v := ?vr3x8) ?hir3x8 ?hsr3x8 ?hfr3x8 ?hrr3x8 ?hQr3x8 (Or.inl ⟨?hwr3x8, ?hyr3x8⟩) ?hSr3x8 ?restr3x8
                        case hir3x8 => (simp; rfl)
                        case hsr3x8 => kernel_rfl
                        case hfr3x8 => kernel_rfl
                        case hrr3x8 => kernel_rfl
                        case hQr3x8 => exact fun _ _ _ h => h
                        case hwr3x8 => rfl
                        case hyr3x8 => (intro wq hSq; (try dsimp only at hSq); go_simp; (try with_reducible rfl))
                        case hSr3x8 => assumption
                        simp only [Act.put, List.setIfInBounds_toArray, List.set_cons_zero, List.set_cons_succ]
                        refine wpAnyH_take (i := 9) (oi := ?or3x9) (v := ?vr3x9) ?hir3x9 ?hsr3x9 ?hfr3x9 ?hrr3x9 ?hQr3x9 (Or.inl ⟨?hwr3x9, ?hyr3x9⟩) ?hSr3x9 ?restr3x9
                        case hir3x9 => (simp; rfl)
                        case hsr3x9 => kernel_rfl
                        case hfr3x9 => kernel_rfl
                        case hrr3x9 => kernel_rfl
                        case hQr3x9 => exact fun _ _ _ h => h
                        case hwr3x9 => rfl
                        case hyr3x9 => (intro wq hSq; (try dsimp only at hSq); go_simp; (try with_reducible rfl))
                        case hSr3x9 => assumption
                        simp only [Act.put, List.setIfInBounds_toArray, List.set_cons_zero, List.set_cons_succ]
                        refine wpAnyH_take (i := 10) (oi := ?or3x10) (v := ?vr3x10) ?hir3x10 ?hsr3x10 ?hfr3x10 ?hrr3x10 ?hQr3x10 (Or.inl ⟨?hwr3x10, ?hyr3x10⟩) ?hSr3x10 ?restr3x10
                        case hir3x10 => (simp; rfl)
                        case hsr3x10 => kernel_rfl
                        case hfr3x10 => kernel_rfl
                        case hrr3x10 => kernel_rfl
                        case hQr3x10 => exact fun _ _ _ h => h
                        case hwr3x10 => rfl
                        case hyr3x10 => (intro wq hSq; (try dsimp only at hSq); go_simp; (try with_reducible rfl))
                        case hSr3x10 => assumption
                        simp only [Act.put, List.setIfInBounds_toArray, List.set_cons_zero, List.set_cons_succ]
                        refine wpAnyH_ready (rs := [11]) (by kernel_rfl) (by simp) ?_
                        refine AllReadyH.cons (o := ?or3x11) ?hir3x11 (fun K hK => ?_) AllReadyH.nil
                        case hir3x11 => (simp; rfl)
                        go_simp
                        refine (refGood_any q.v.k q.v.n q.v.f q.v.s _).mono ?_
                        rintro e wz1 ⟨rfl, hb9⟩
                        have hy1 : Hid (Below wr.heap.size wr wz1) := Mm.hid ((Below.drew (Below.refl _ wr)).trans hb9)
                        have hx1 : Hid (Below wa.heap.size wa wz1) := Mm.hid (Vl.btr HO2.out.1 hy1.out)
                        clear hb9
                        go_wp2_with fail
                        refine hK.out _ _ (HSK.out _ hx1.out) (fun hHr3x11 => ?_)
                        clear hK K
                        refine wpAnyH_take (i := 12) (oi := ?or3x12) (v := ?vr3x12) ?hir3x12 ?hsr3x12 ?hfr3x12 ?hrr3x12 ?hQr3x12 (Or.inl ⟨?hwr3x12, ?hyr3x12⟩) ?hSr3x12 ?restr3x12
                        case hir3x12 => (simp; rfl)
                        case hsr3x12 => kernel_rfl
                        case hfr3x12 => kernel_rfl
                        case hrr3x12 => kernel_rfl
                        case hQr3x12 => exact fun _ _ _ h => h
                        case hwr3x12 => rfl
                        case hyr3x12 => (intro wq hSq; (try dsimp only at hSq); go_simp; (try with_reducible rfl))
                        case hSr3x12 => assumption
                        simp only [Act.put, List.setIfInBounds_toArray, List.set_cons_zero, List.set_cons_succ]
                        refine wpAnyH_take (i := 13) (oi := ?or3x13) (v := ?vr3x13) ?hir3x13 ?hsr3x13 ?hfr3x13 ?hrr3x13 ?hQr3x13 (Or.inl ⟨?hwr3x13, ?hyr3x13⟩) ?hSr3x13 ?restr3x13
                        case hir3x13 => (simp; rfl)
                        case hsr3x13 => kernel_rfl
                        case hfr3x13 => kernel_rfl
                        case hrr3x13 => kernel_rfl
                        case hQr3x13 => exact fun _ _ _ h => h
                        case hwr3x13 => rfl
                        case hyr3x13 => (intro wq hSq; (try dsimp only at hSq); go_simp; (try with_reducible rfl))
                        case hSr3x13 => assumption
                        simp only [Act.put, List.setIfInBounds_toArray, List.set_cons_zero, List.set_cons_succ]
                        refine wpAnyH_take (i := 14) (oi := ?or3x14) (v := ?vr3x14) ?hir3x14 ?hsr3x14 ?hfr3x14 ?hrr3x14 ?hQr3x14 (Or.inl ⟨?hwr3x14, ?hyr3x14⟩) ?hSr3x14 ?restr3x14
                        case hir3x14 => (simp; rfl)
                        case hsr3x14 => kernel_rfl
                        case hfr3x14 => kernel_rfl
                        case hrr3x14 => kernel_rfl
                        case hQr3x14 => exact fun _ _ _ h => h
                        case hwr3x14 => rfl
                        case hyr3x14 => (intro wq hSq; (try dsimp only at hSq); go_simp; (try with_reducible rfl))
                        case hSr3x14 => assumption
                        simp only [Act.put, List.setIfInBounds_toArray, List.set_cons_zero, List.set_cons_succ]
                        refine wpAnyH_take (i := 15) (oi := ?or3x15) (v := ?vr3x15) ?hir3x15 ?hsr3x15 ?hfr3x15 ?hrr3x15 ?hQr3x15 (Or.inl ⟨?hwr3x15, ?hyr3x15⟩) ?hSr3x15 ?restr3x15
                        case hir3x15 => (simp; rfl)
                        case hsr3x15 => kernel_rfl
                        case hfr3x15 => kernel_rfl
                        case hrr3x15 => kernel_rfl
                        case hQr3x15 => exact fun _ _ _ h => h
                        case hwr3x15 => rfl
                        case hyr3x15 => (intro wq hSq; (try dsimp only at hSq); go_simp; (try with_reducible rfl))
                        case hSr3x15 => assumption
                        simp only [Act.put, List.setIfInBounds_toArray, List.set_cons_zero, List.set_cons_succ]
                        refine wpAnyH_take (i := 16) (oi := ?or3x16) (v := ?vr3x16) ?hir3x16 ?hsr3x16 ?hfr3x16 ?hrr3x16 ?hQr3x16 (Or.inl ⟨?hwr3x16, ?hyr3x16⟩) ?hSr3x16 ?restr3x16
                        case hir3x16 => (simp; rfl)
                        case hsr3x16 => kernel_rfl
                        case hfr3x16 => kernel_rfl
                        case hrr3x16 => kernel_rfl
                        case hQr3x16 => exact fun _ _ _ h => h
                        case hwr3x16 => rfl
                        case hyr3x16 => (intro wq hSq; (try dsimp only at hSq); go_simp; (try with_reducible rfl))
                        case hSr3x16 => assumption
                        simp only [Act.put, List.setIfInBounds_toArray, List.set_cons_zero, List.set_cons_succ]
                        refine wpAnyH_take (i := 17) (oi := ?or3x17) (v := ?vr3x17) ?hir3x17 ?hsr3x17 ?hfr3x17 ?hrr3x17 ?hQr3x17 (Or.inl ⟨?hwr3x17, ?hyr3x17⟩) ?hSr3x17 ?restr3x17
                        case hir3x17 => (simp; rfl)
                        case hsr3x17 => kernel_rfl
                        case hfr3x17 => kernel_rfl
                        case hrr3x17 => kernel_rfl
                        case hQr3x17 => exact fun _ _ _ h => h
                        case hwr3x17 => rfl
                        case hyr3x17 => (intro wq hSq; (try dsimp only at hSq); go_simp; (try with_reducible rfl))
                        case hSr3x17 => assumption
                        simp only [Act.put, List.setIfInBounds_toArray, List.set_cons_zero, List.set_cons_succ]
                        refine wpAnyH_take (i := 18) (oi := ?or3x18) (v := ?vr3x18) ?hir3x18 ?hsr3x18 ?hfr3x18 ?hrr3x18 ?hQr3x18 (Or.inl ⟨?hwr3x18, ?hyr3x18⟩) ?hSr3x18 ?restr3x18
                        case hir3x18 => (simp; rfl)
                        case hsr3x18 => kernel_rfl
                        case hfr3x18 => kernel_rfl
                        case hrr3x18 => kernel_rfl
                        case hQr3x18 => exact fun _ _ _ h => h
                        case hwr3x18 => rfl
                        case hyr3x18 => (intro wq hSq; (try dsimp only at hSq); go_simp; (try with_reducible rfl))
                        case hSr3x18 => assumption
                        simp only [Act.put, List.setIfInBounds_toArray, List.set_cons_zero, List.set_cons_succ]
                        refine wpAnyH_take (i := 19) (oi := ?or3x19) (v := ?vr3x19) ?hir3x19 ?hsr3x19 ?hfr3x19 ?hrr3x19 ?hQr3x19 (Or.inl ⟨?hwr3x19, ?hyr3x19⟩) ?hSr3x19 ?restr3x19
                        case hir3x19 => (simp; rfl)
                        case hsr3x19 => kernel_rfl
                        case hfr3x19 => kernel_rfl
                        case hrr3x19 => kernel_rfl
                        case hQr3x19 => exact fun _ _ _ h => h
                        case hwr3x19 => rfl
                        case hyr3x19 => (intro wq hSq; (try dsimp only at hSq); go_simp; (try with_reducible rfl))
                        case hSr3x19 => assumption
                        simp only [Act.put, List.setIfInBounds_toArray, List.set_cons_zero, List.set_cons_succ]
                        refine wpAnyH_take (i := 20) (oi := ?or3x20) (v := ?vr3x20) ?hir3x20 ?hsr3x20 ?hfr3x20 ?hrr3x20 ?hQr3x20 (Or.inl ⟨?hwr3x20, ?hyr3x20⟩) ?hSr3x20 ?restr3x20
                        case hir3x20 => (simp; rfl)
                        case hsr3x20 => kernel_rfl
                        case hfr3x20 => kernel_rfl
                        case hrr3x20 => kernel_rfl
                        case hQr3x20 => exact fun _ _ _ h => h
                        case hwr3x20 => rfl
                        case hyr3x20 => (intro wq hSq; (try dsimp only at hSq); go_simp; (try with_reducible rfl))
                        case hSr3x20 => assumption
                        simp only [Act.put, List.setIfInBounds_toArray, List.set_cons_zero, List.set_cons_succ]
                        refine wpAnyH_take (i := 21) (oi := ?or3x21) (v := ?vr3x21) ?hir3x21 ?hsr3x21 ?hfr3x21 ?hrr3x21 ?hQr3x21 (Or.inl ⟨?hwr3x21, ?hyr3x21⟩) ?hSr3x21 ?restr3x21
                        case hir3x21 => (simp; rfl)
                        case hsr3x21 => kernel_rfl
                        case hfr3x21 => kernel_rfl
                        case hrr3x21 => kernel_rfl
                        case hQr3x21 => exact fun _ _ _ h => h
                        case hwr3x21 => rfl
                        case hyr3x21 => (intro wq hSq; (try dsimp only at hSq); go_simp; (try with_reducible rfl))
                        case hSr3x21 => assumption
                        simp only [Act.put, List.setIfInBounds_toArray, List.set_cons_zero, List.set_cons_succ]
                        refine wpAnyH_ready (rs := [22]) (by kernel_rfl) (by simp) ?_
                        refine AllReadyH.cons (o := ?or3x22) ?hir3x22 (fun K hK => ?_) AllReadyH.nil
                        case hir3x22 => (simp; rfl)
                        go_simp
                        refine (refCmpV_any y.v q.v _).mono ?_
                        rintro e wz2 ⟨rfl, hb9⟩
                        rw [hC]
                        have hy2 : Hid (Below wr.heap.size wr wz2) := Mm.hid (by rw [hb9]; exact (hy1.out.alloc hy1.out.size _).alloc (by have := hy1.out.size; simp; omega) _)
                        have hx2 : Hid (Below wa.heap.size wa wz2) := Mm.hid (Vl.btr HO2.out.1 hy2.out)
                        clear hb9
                        go_wp2_with fail
                        refine hK.out _ _ (HSK.out _ hx2.out) (fun hHr3x22 => ?_)
                        clear hK K
                        refine wpAnyH_take (i := 23) (oi := ?or3x23) (v := ?vr3x23) ?hir3x23 ?hsr3x23 ?hfr3x23 ?hrr3x23 ?hQr3x23 (Or.inl ⟨?hwr3x23, ?hyr3x23⟩) ?hSr3x23 ?restr3x23
                        case hir3x23 => (simp; rfl)
                        case hsr3x23 => kernel_rfl
                        case hfr3x23 => kernel_rfl
                        case hrr3x23 => kernel_rfl
                        case hQr3x23 => exact fun _ _ _ h => h
                        case hwr3x23 => rfl
                        case hyr3x23 => (intro wq hSq; (try dsimp only at hSq); go_simp; (try with_reducible rfl))
                        case hSr3x23 => assumption
                        simp only [Act.put, List.setIfInBounds_toArray, List.set_cons_zero, List.set_cons_succ]
                        refine wpAnyH_take (i := 24) (oi := ?or3x24) (v := ?vr3x24) ?hir3x24 ?hsr3x24 ?hfr3x24 ?hrr3x24 ?hQr3x24 (Or.inl ⟨?hwr3x24, ?hyr3x24⟩) ?hSr3x24 ?restr3x24
                        case hir3x24 => (simp; rfl)
                        case hsr3x24 => kernel_rfl
                        case hfr3x24 => kernel_rfl
                        case hrr3x24 => kernel_rfl
                        case hQr3x24 => exact fun _ _ _ h => h
                        case hwr3x24 => rfl
                        case hyr3x24 => (intro wq hSq; (try dsimp only at hSq); go_simp; (try with_reducible rfl))
                        case hSr3x24 => assumption
                        simp only [Act.put, List.setIfInBounds_toArray, List.set_cons_zero, List.set_cons_succ]
                        refine wpAnyH_done (by kernel_rfl) ?_ _
                        have hx2x : Below wr.heap.size wr wz2 := hy2.out
                        have HDW := HDY.out _ hx2.out
                        obtain ⟨y0, y1, y2, y3, y4, y5, y6, y7, y8, y9⟩ := HDW
                        have HOw := Mm.hid (HO2.out.2.below (hx2x))
                        go_wp2_with (at_builtin; refine Ix.appStep _ rfl _ _ rfl wa.heap.size (.slice p2 n2 c2) _ y rfl HOw.out _ rfl rfl HM2.out.1 hx2.out.size ?_; intro v' wc h1 h2 h3; have HBc := Mm.hid (Below.grown hx2.out h2 hx2.out.size (fun g hg => (HOw.out.lt hg).2)); have HOc := Mm.hid h1; obtain ⟨p', c', e'⟩ := h1.shape; obtain ⟨n', hn'⟩ : ∃ z, z = (((ins.take m).filter (Ix.stayB q)) ++ [y]).length := ⟨_, rfl⟩; rw [← hn'] at e'; subst e'; have HN' := Mm.hid hn'; clear hn' h1 h2 h3)
                        have hts : (ins.take (m + 1)).filter (Ix.stayB q) = (ins.take m).filter (Ix.stayB q) ++ [y] := by rw [HTF.out, if_pos HSY.out]
                        exact ⟨⟨m + 1, p', n', c', by omega, by go_num, rfl, by (have h1 := HN'.out; rw [List.length_append, ← HN2.out] at h1; have h2 : [y].length = 1 := rfl; omega), by (rw [hts]; exact HN'), by (rw [hts]; exact Mm.hid ⟨HBc.out, HOc.out⟩)⟩, by simp [RowKit.intOf]; omega⟩
                  · have hb : (y.tid == q.tid) = false := beq_eq_false_iff_ne.2 ht
                    have hbn : (y.tid != q.tid) = true := by rw [bne, hb]; rfl
                    have HSY : Hid (Ix.stayB q y = true) := Mm.hid (by unfold Ix.stayB; rw [decide_eq_true ht]; rfl)
                    clear ht
                    go_upto_region 18 with fail
                    refine wp_region_held_drew (S := fun w' => w'.cell? ⟨g, m * 10 + 1, none⟩ = some (.int .i64 y.tid) ∧ w'.cell? ⟨g, m * 10 + 2, none⟩ = some (.int .i64 y.v.k) ∧ w'.cell? ⟨g, m * 10 + 3, none⟩ = some (.int .i64 y.v.n) ∧ w'.cell? ⟨g, m * 10 + 4, none⟩ = some (.float .f64 y.v.f) ∧ w'.cell? ⟨g, m * 10 + 5, none⟩ = some (.string y.v.s) ∧ w'.cell? ⟨gs, 1, none⟩ = some (.int .i64 q.tid) ∧ w'.cell? ⟨gs, 2, none⟩ = some (.int .i64 q.v.k) ∧ w'.cell? ⟨gs, 3, none⟩ = some (.int .i64 q.v.n) ∧ w'.cell? ⟨gs, 4, none⟩ = some (.float .f64 q.v.f) ∧ w'.cell? ⟨gs, 5, none⟩ = some (.string q.v.s)) (by kernel_rfl) (HSK.out _ (Below.drew HO2.out.1)) (fun hH => ?_)
                    refine wpAnyH_take (i := 0) (oi := ?or4x0) (v := ?vr4x0) ?hir4x0 ?hsr4x0 ?hfr4x0 ?hrr4x0 ?hQr4x0 (Or.inl ⟨?hwr4x0, ?hyr4x0⟩) ?hSr4x0 ?restr4x0
                    case hir4x0 => (simp; rfl)
                    case hsr4x0 => kernel_rfl
                    case hfr4x0 => kernel_rfl
                    case hrr4x0 => kernel_rfl
                    case hQr4x0 => exact fun _ _ _ h => h
                    case hwr4x0 => rfl
                    case hyr4x0 => (intro wq hSq; (try dsimp only at hSq); go_simp; (try with_reducible rfl))
                    case hSr4x0 => assumption
                    simp only [Act.put, List.setIfInBounds_toArray, List.set_cons_zero, List.set_cons_succ]
                    refine wpAnyH_take (i := 1) (oi := ?or4x1) (v := ?vr4x1) ?hir4x1 ?hsr4x1 ?hfr4x1 ?hrr4x1 ?hQr4x1 (Or.inl ⟨?hwr4x1, ?hyr4x1⟩) ?hSr4x1 ?restr4x1
                    case hir4x1 => (simp; rfl)
                    case hsr4x1 => kernel_rfl
                    case hfr4x1 => kernel_rfl
                    case hrr4x1 => kernel_rfl
                    case hQr4x1 => exact fun _ _ _ h => h
                    case hwr4x1 => rfl
                    case hyr4x1 => (intro wq hSq; (try dsimp only at hSq); go_simp; (try with_reducible rfl))
                    case hSr4x1 => assumption
                    simp only [Act.put, List.setIfInBounds_toArray, List.set_cons_zero, List.set_cons_succ]
                    refine wpAnyH_take (i := 2) (oi := ?or4x2) (v := ?vr4x2) ?hir4x2 ?hsr4x2 ?hfr4x2 ?hrr4x2 ?hQr4x2 (Or.inl ⟨?hwr4x2, ?hyr4x2⟩) ?hSr4x2 ?restr4x2
                    case hir4x2 => (simp; rfl)
                    case hsr4x2 => kernel_rfl
                    case hfr4x2 => kernel_rfl
                    case hrr4x2 => kernel_rfl
                    case hQr4x2 => exact fun _ _ _ h => h
                    case hwr4x2 => rfl
                    case hyr4x2 => (intro wq hSq; (try dsimp only at hSq); go_simp; (try with_reducible rfl))
                    case hSr4x2 => assumption
                    simp only [Act.put, List.setIfInBounds_toArray, List.set_cons_zero, List.set_cons_succ]
                    refine wpAnyH_take (i := 3) (oi := ?or4x3) (v := ?vr4x3) ?hir4x3 ?hsr4x3 ?hfr4x3 ?hrr4x3 ?hQr4x3 (Or.inl ⟨?hwr4x3, ?hyr4x3⟩) ?hSr4x3 ?restr4x3
                    case hir4x3 => (simp; rfl)
                    case hsr4x3 => kernel_rfl
                    case hfr4x3 => kernel_rfl
                    case hrr4x3 => kernel_rfl
                    case hQr4x3 => exact fun _ _ _ h => h
                    case hwr4x3 => rfl
                    case hyr4x3 => (intro wq hSq; (try dsimp only at hSq); go_simp; (try with_reducible rfl))
                    case hSr4x3 => assumption
                    simp only [Act.put, List.setIfInBounds_toArray, List.set_cons_zero, List.set_cons_succ]
                    refine wpAnyH_take (i := 4) (oi := ?or4x4) (v := ?vr4x4) ?hir4x4 ?hsr4x4 ?hfr4x4 ?hrr4x4 ?hQr4x4 (Or.inl ⟨?hwr4x4, ?hyr4x4⟩) ?hSr4x4 ?restr4x4
                    case hir4x4 => (simp; rfl)
                    case hsr4x4 => kernel_rfl
                    case hfr4x4 => kernel_rfl
                    case hrr4x4 => kernel_rfl
                    case hQr4x4 => exact fun _ _ _ h => h
                    case hwr4x4 => rfl
                    case hyr4x4 => (intro wq hSq; (try dsimp only at hSq); go_simp; (try with_reducible rfl))
                    case hSr4x4 => assumption
                    simp only [Act.put, List.setIfInBounds_toArray, List.set_cons_zero, List.set_cons_succ]
                    refine wpAnyH_take (i := 5) (oi := ?or4x5) (v := ?vr4x5) ?hir4x5 ?hsr4x5 ?hfr4x5 ?hrr4x5 ?hQr4x5 (Or.inl ⟨?hwr4x5, ?hyr4x5⟩) ?hSr4x5 ?restr4x5
                    case hir4x5 => (simp; rfl)
                    case hsr4x5 => kernel_rfl
                    case hfr4x5 => kernel_rfl
                    case hrr4x5 => kernel_rfl
                    case hQr4x5 => exact fun _ _ _ h => h
                    case hwr4x5 => rfl
                    case hyr4x5 => (intro wq hSq; (try dsimp only at hSq); go_simp; (try with_reducible rfl))
                    case hSr4x5 => assumption
                    simp only [Act.put, List.setIfInBounds_toArray, List.set_cons_zero, List.set_cons_succ]
                    refine wpAnyH_take (i := 6) (oi := ?or4x6) (v := ?vr4x6) ?hir4x6 ?hsr4x6 ?hfr4x6 ?hrr4x6 ?hQr4x6 (Or.inl ⟨?hwr4x6, ?hyr4x6⟩) ?hSr4x6 ?restr4x6
                    case hir4x6 => (simp; rfl)
                    case hsr4x6 => kernel_rfl
                    case hfr4x6 => kernel_rfl
                    case hrr4x6 => kernel_rfl
                    case hQr4x6 => exact fun _ _ _ h => h
                    case hwr4x6 => rfl
                    case hyr4x6 => (intro wq hSq; (try dsimp only at hSq); go_simp; (try with_reducible rfl))
                    case hSr4x6 => assumption
                    simp only [Act.put, List.setIfInBounds_toArray, List.set_cons_zero, List.set_cons_succ]
                    refine wpAnyH_take (i := 7) (oi := ?or4x7) (v := ?vr4x7) ?hir4x7 ?hsr4x7 ?hfr4x7 ?hrr4x7 ?hQr4x7 (Or.inl ⟨?hwr4x7, ?hyr4x7⟩) ?hSr4x7 ?restr4x7
                    case hir4x7 => (simp; rfl)
                    case hsr4x7 => kernel_rfl
                    case hfr4x7 => kernel_rfl
                    case hrr4x7 => kernel_rfl
                    case hQr4x7 => exact fun _ _ _ h => h
                    case hwr4x7 => rfl
                    case hyr4x7 => (intro wq hSq; (try dsimp only at hSq); go_simp; (try with_reducible rfl))
                    case hSr4x7 => assumption
                    simp only [Act.put, List.setIfInBounds_toArray, List.set_cons_zero, List.set_cons_succ]
                    refine wpAnyH_take (i := 8) (oi := ?or4x8) (v := ?vr4x8) ?hir4x8 ?hsr4x8 ?hfr4x8 ?hrr4x8 ?hQr4x8 (Or.inl ⟨?hwr4x8, ?hyr4x8⟩) ?hSr4x8 ?restr4x8
                    case hir4x8 => (simp; rfl)
                    case hsr4x8 => kernel_rfl
                    case hfr4x8 => kernel_rfl
                    case hrr4x8 => kernel_rfl
                    case hQr4x8 => exact fun _ _ _ h => h
                    case hwr4x8 => rfl
                    case hyr4x8 => (intro wq hSq; (try dsimp only at hSq); go_simp; (try with_reducible rfl))
                    case hSr4x8 => assumption
                    simp only [Act.put, List.setIfInBounds_toArray, List.set_cons_zero, List.set_cons_succ]
                    refine wpAnyH_take (i := 9) (oi := ?or4x9) (v := undef) ?hir4x9 ?hsr4x9 ?hfr4x9 ?hrr4x9 ?hQr4x9 (Or.inr ⟨?hwr4x9, rfl⟩) ?hSr4x9 ?restr4x9
                    case hir4x9 => (simp; rfl)
                    case hsr4x9 => kernel_rfl
                    case hfr4x9 => kernel_rfl
                    case hrr4x9 => kernel_rfl
                    case hQr4x9 => exact fun _ _ _ h => h
                    case hwr4x9 => rfl
                    case hSr4x9 => assumption
                    simp only [Act.put, List.setIfInBounds_toArray, List.set_cons_zero, List.set_cons_succ]
                    refine wpAnyH_take (i := 10) (oi := ?or4x10) (v := undef) ?hir4x10 ?hsr4x10 ?hfr4x10 ?hrr4x10 ?hQr4x10 (Or.inr ⟨?hwr4x10, rfl⟩) ?hSr4x10 ?restr4x10
                    case hir4x10 => (simp; rfl)
                    case hsr4x10 => kernel_rfl
                    case hfr4x10 => kernel_rfl
                    case hrr4x10 => kernel_rfl
                    case hQr4x10 => exact fun _ _ _ h => h
                    case hwr4x10 => rfl
                    case hSr4x10 => assumption
                    simp only [Act.put, List.setIfInBounds_toArray, List.set_cons_zero, List.set_cons_succ]
                    refine wpAnyH_take (i := 11) (oi := ?or4x11) (v := undef) ?hir4x11 ?hsr4x11 ?hfr4x11 ?hrr4x11 ?hQr4x11 (Or.inr ⟨?hwr4x11, rfl⟩) ?hSr4x11 ?restr4x11
                    case hir4x11 => (simp; rfl)
                    case hsr4x11 => kernel_rfl
                    case hfr4x11 => kernel_rfl
                    case hrr4x11 => kernel_rfl
                    case hQr4x11 => exact fun _ _ _ h => h
                    case hwr4x11 => rfl
                    case hSr4x11 => assumption
                    simp only [Act.put, List.setIfInBounds_toArray, List.set_cons_zero, List.set_cons_succ]
                    refine wpAnyH_take (i := 12) (oi := ?or4x12) (v := undef) ?hir4x12 ?hsr4x12 ?hfr4x12 ?hrr4x12 ?hQr4x12 (Or.inr ⟨?hwr4x12, rfl⟩) ?hSr4x12 ?restr4x12
                    case hir4x12 => (simp; rfl)
                    case hsr4x12 => kernel_rfl
                    case hfr4x12 => kernel_rfl
                    case hrr4x12 => kernel_rfl
                    case hQr4x12 => exact fun _ _ _ h => h
                    case hwr4x12 => rfl
                    case hSr4x12 => assumption
                    simp only [Act.put, List.setIfInBounds_toArray, List.set_cons_zero, List.set_cons_succ]
                    refine wpAnyH_take (i := 13) (oi := ?or4x13) (v := ?vr4x13) ?hir4x13 ?hsr4x13 ?hfr4x13 ?hrr4x13 ?hQr4x13 (Or.inl ⟨?hwr4x13, ?hyr4x13⟩) ?hSr4x13 ?restr4x13
                    case hir4x13 => (simp; rfl)
                    case hsr4x13 => kernel_rfl
                    case hfr4x13 => kernel_rfl
                    case hrr4x13 => kernel_rfl
                    case hQr4x13 => exact fun _ _ _ h => h
                    case hwr4x13 => rfl
                    case hyr4x13 => (intro wq hSq; (try dsimp only at hSq); go_simp; (try with_reducible rfl))
                    case hSr4x13 => assumption
                    simp only [Act.put, List.setIfInBounds_toArray, List.set_cons_zero, List.set_cons_succ]
                    refine wpAnyH_take (i := 14) (oi := ?or4x14) (v := ?vr4x14) ?hir4x14 ?hsr4x14 ?hfr4x14 ?hrr4x14 ?hQr4x14 (Or.inl ⟨?hwr4x14, ?hyr4x14⟩) ?hSr4x14 ?restr4x14
                    case hir4x14 => (simp; rfl)
                    case hsr4x14 => kernel_rfl
                    case hfr4x14 => kernel_rfl
                    case hrr4x14 => kernel_rfl
                    case hQr4x14 => exact fun _ _ _ h => h
                    case hwr4x14 => rfl
                    case hyr4x14 => (intro wq hSq; (try dsimp only at hSq); go_simp; (try with_reducible rfl))
                    case hSr4x14 => assumption
                    simp only [Act.put, List.setIfInBounds_toArray, List.set_cons_zero, List.set_cons_succ]
                    refine wpAnyH_take (i := 15) (oi := ?or4x15) (v := undef) ?hir4x15 ?hsr4x15 ?hfr4x15 ?hrr4x15 ?hQr4x15 (Or.inr ⟨?hwr4x15, rfl⟩) ?hSr4x15 ?restr4x15
                    case hir4x15 => (simp; rfl)
                    case hsr4x15 => kernel_rfl
                    case hfr4x15 => kernel_rfl
                    case hrr4x15 => kernel_rfl
                    case hQr4x15 => exact fun _ _ _ h => h
                    case hwr4x15 => rfl
                    case hSr4x15 => assumption
                    simp only [Act.put, List.setIfInBounds_toArray, List.set_cons_zero, List.set_cons_succ]
                    refine wpAnyH_take (i := 16) (oi := ?or4x16) (v := undef) ?hir4x16 ?hsr4x16 ?hfr4x16 ?hrr4x16 ?hQr4x16 (Or.inr ⟨?hwr4x16, rfl⟩) ?hSr4x16 ?restr4x16
                    case hir4x16 => (simp; rfl)
                    case hsr4x16 => kernel_rfl
                    case hfr4x16 => kernel_rfl
                    case hrr4x16 => kernel_rfl
                    case hQr4x16 => exact fun _ _ _ h => h
                    case hwr4x16 => rfl
                    case hSr4x16 => assumption
                    simp only [Act.put, List.setIfInBounds_toArray, List.set_cons_zero, List.set_cons_succ]
                    refine wpAnyH_take (i := 17) (oi := ?or4x17) (v := undef) ?hir4x17 ?hsr4x17 ?hfr4x17 ?hrr4x17 ?hQr4x17 (Or.inr ⟨?hwr4x17, rfl⟩) ?hSr4x17 ?restr4x17
                    case hir4x17 => (simp; rfl)
                    case hsr4x17 => kernel_rfl
                    case hfr4x17 => kernel_rfl
                    case hrr4x17 => kernel_rfl
                    case hQr4x17 => exact fun _ _ _ h => h
                    case hwr4x17 => rfl
                    case hSr4x17 => assumption
                    simp only [Act.put, List.setIfInBounds_toArray, List.set_cons_zero, List.set_cons_succ]
                    refine wpAnyH_take (i := 18) (oi := ?or4x18) (v := undef) ?hir4x18 ?hsr4x18 ?hfr4x18 ?hrr4x18 ?hQr4x18 (Or.inr ⟨?hwr4x18, rfl⟩) ?hSr4x18 ?restr4x18
                    case hir4x18 => (simp; rfl)
                    case hsr4x18 => kernel_rfl
                    case hfr4x18 => kernel_rfl
                    case hrr4x18 => kernel_rfl
                    case hQr4x18 => exact fun _ _ _ h => h
                    case hwr4x18 => rfl
                    case hSr4x18 => assumption
                    simp only [Act.put, List.setIfInBounds_toArray, List.set_cons_zero, List.set_cons_succ]
                    refine wpAnyH_take (i := 19) (oi := ?or4x19) (v := undef) ?hir4x19 ?hsr4x19 ?hfr4x19 ?hrr4x19 ?hQr4x19 (Or.inr ⟨?hwr4x19, rfl⟩) ?hSr4x19 ?restr4x19
                    case hir4x19 => (simp; rfl)
                    case hsr4x19 => kernel_rfl
                    case hfr4x19 => kernel_rfl
                    case hrr4x19 => kernel_rfl
                    case hQr4x19 => exact fun _ _ _ h => h
                    case hwr4x19 => rfl
                    case hSr4x19 => assumption
                    simp only [Act.put, List.setIfInBounds_toArray, List.set_cons_zero, List.set_cons_succ]
                    refine wpAnyH_take (i := 20) (oi := ?or4x20) (v := undef) ?hir4x20 ?hsr4x20 ?hfr4x20 ?hrr4x20 ?hQr4x20 (Or.inr ⟨?hwr4x20, rfl⟩) ?hSr4x20 ?restr4x20
                    case hir4x20 => (simp; rfl)
                    case hsr4x20 => kernel_rfl
                    case hfr4x20 => kernel_rfl
                    case hrr4x20 => kernel_rfl
                    case hQr4x20 => exact fun _ _ _ h => h
                    case hwr4x20 => rfl
                    case hSr4x20 => assumption
                    simp only [Act.put, List.setIfInBounds_toArray, List.set_cons_zero, List.set_cons_succ]
                    refine wpAnyH_take (i := 21) (oi := ?or4x21) (v := undef) ?hir4x21 ?hsr4x21 ?hfr4x21 ?hrr4x21 ?hQr4x21 (Or.inr ⟨?hwr4x21, rfl⟩) ?hSr4x21 ?restr4x21
                    case hir4x21 => (simp; rfl)
                    case hsr4x21 => kernel_rfl
                    case hfr4x21 => kernel_rfl
                    case hrr4x21 => kernel_rfl
                    case hQr4x21 => exact fun _ _ _ h => h
                    case hwr4x21 => rfl
                    case hSr4x21 => assumption
                    simp only [Act.put, List.setIfInBounds_toArray, List.set_cons_zero, List.set_cons_succ]
                    refine wpAnyH_take (i := 22) (oi := ?or4x22) (v := undef) ?hir4x22 ?hsr4x22 ?hfr4x22 ?hrr4x22 ?hQr4x22 (Or.inr ⟨?hwr4x22, rfl⟩) ?hSr4x22 ?restr4x22
                    case hir4x22 => (simp; rfl)
                    case hsr4x22 => kernel_rfl
                    case hfr4x22 => kernel_rfl
                    case hrr4x22 => kernel_rfl
                    case hQr4x22 => exact fun _ _ _ h => h
                    case hwr4x22 => rfl
                    case hSr4x22 => assumption
                    simp only [Act.put, List.setIfInBounds_toArray, List.set_cons_zero, List.set_cons_succ]
                    refine wpAnyH_take (i := 23) (oi := ?or4x23) (v := undef) ?hir4x23 ?hsr4x23 ?hfr4x23 ?hrr4x23 ?hQr4x23 (Or.inr ⟨?hwr4x23, rfl⟩) ?hSr4x23 ?restr4x23
                    case hir4x23 => (simp; rfl)
                    case hsr4x23 => kernel_rfl
                    case hfr4x23 => kernel_rfl
                    case hrr4x23 => kernel_rfl
                    case hQr4x23 => exact fun _ _ _ h => h
                    case hwr4x23 => rfl
                    case hSr4x23 => assumption
                    simp only [Act.put, List.setIfInBounds_toArray, List.set_cons_zero, List.set_cons_succ]
                    refine wpAnyH_take (i := 24) (oi := ?or4x24) (v := ?vr4x24) ?hir4x24 ?hsr4x24 ?hfr4x24 ?hrr4x24 ?hQr4x24 (Or.inl ⟨?hwr4x24, ?hyr4x24⟩) ?hSr4x24 ?restr4x24
                    case hir4x24 => (simp; rfl)
                    case hsr4x24 => kernel_rfl
                    case hfr4x24 => kernel_rfl
                    case hrr4x24 => kernel_rfl
                    case hQr4x24 => exact fun _ _ _ h => h
                    case hwr4x24 => rfl
                    case hyr4x24 => (intro wq hSq; (try dsimp only at hSq); go_simp; (try with_reducible rfl))
                    case hSr4x24 => assumption
                    simp only [Act.put, List.setIfInBounds_toArray, List.set_cons_zero, List.set_cons_succ]
                    refine wpAnyH_done (by kernel_rfl) ?_ _
                    have hx0 : Hid (Below wa.heap.size wa wr.drew) := Mm.hid (Below.drew HO2.out.1)
                    have hx0x : Below wr.heap.size wr wr.drew := Below.drew (Below.refl _ _)
                    have HDW := HDY.out _ hx0.out
                    obtain ⟨y0, y1, y2, y3, y4, y5, y6, y7, y8, y9⟩ := HDW
                    have HOw := Mm.hid (HO2.out.2.below (hx0x))
                    go_wp2_with (at_builtin; refine Ix.appStep _ rfl _ _ rfl wa.heap.size (.slice p2 n2 c2) _ y rfl HOw.out _ rfl rfl HM2.out.1 hx0.out.size ?_; intro v' wc h1 h2 h3; have HBc := Mm.hid (Below.grown hx0.out h2 hx0.out.size (fun g hg => (HOw.out.lt hg).2)); have HOc := Mm.hid h1; obtain ⟨p', c', e'⟩ := h1.shape; obtain ⟨n', hn'⟩ : ∃ z, z = (((ins.take m).filter (Ix.stayB q)) ++ [y]).length := ⟨_, rfl⟩; rw [← hn'] at e'; subst e'; have HN' := Mm.hid hn'; clear hn' h1 h2 h3)
                    have hts : (ins.take (m + 1)).filter (Ix.stayB q) = (ins.take m).filter (Ix.stayB q) ++ [y] := by rw [HTF.out, if_pos HSY.out]
                    exact ⟨⟨m + 1, p', n', c', by omega, by go_num, rfl, by (have h1 := HN'.out; rw [List.length_append, ← HN2.out] at h1; have h2 : [y].length = 1 := rfl; omega), by (rw [hts]; exact HN'), by (rw [hts]; exact Mm.hid ⟨HBc.out, HOc.out⟩)⟩, by simp [RowKit.intOf]; omega⟩
                · obtain rfl : m = n := by omega
                  have ht : ins.take m = ins := List.take_of_length_le (by rw [← HN.out]; exact Nat.le_refl _)
                  rw [ht] at HN2 HO2
                  have HSq := Mm.hid ((HSa.out.below HO2.out.1).swap HO2.out.2 HSa.out.hk.2 HSa.out.q.q.top)
                  have HBz : Hid (n2 ≤ k) := Mm.hid (by omega)
                  clear ht HO2 HSa HQa hm hnm
                  go_wp2_with fail
                  exact ⟨⟨k + 1, s', tg', ins.filter (Ix.stayB q), p2, n2, c2, by omega, by go_num, rfl, by (have := HBz.out; omega), HN2, HSq⟩, by simp [RowKit.intOf]; omega⟩
          · obtain rfl : k = l := by omega
            have HK49 : Hid (k ≤ 4900 ∧ n ≤ 1000) := Mm.hid (by omega)
            have HAN := Mm.hid (Ix.ans HS.out.pm HS.out.q.q.2.1 HG.out.1 HG.out.2)
            have HCN : Hid (s.count = n) := Mm.hid ((Ix.pm_cnt HS.out.pm HS.out.q.q.2.1).trans HN.out.symm)
            clear hlt hk hnk hl
            have c0 : wr.cell? ⟨gv, 0, none⟩ = some (.int .i64 v.k) := Mm.cellOf HS.out.v.at_ rfl
            have c1 : wr.cell? ⟨gv, 1, none⟩ = some (.int .i64 v.n) := Mm.cellOf HS.out.v.at_ rfl
            have c2 : wr.cell? ⟨gv, 2, none⟩ = some (.float .f64 v.f) := Mm.cellOf HS.out.v.at_ rfl
            have c3 : wr.cell? ⟨gv, 3, none⟩ = some (.string v.s) := Mm.cellOf HS.out.v.at_ rfl
            have HFI := Mm.hid (ifind_any (Mm.hid HS.out.q) HK49.out.1 v (HM.out.below HS.out.b) HVX.out.1)
            go_wp2_with fail
            refine HFI.out.mono ?_
            rintro e wf ⟨vF, vFL, rfl, hT⟩
            obtain ⟨q1, c1', e1, I1⟩ := hT.o1.nin
            obtain ⟨T, hTT⟩ : ∃ T, T = List.map (fun n : Nat => (n : Int)) (Ix.findT s v) := ⟨_, rfl⟩
            rw [← hTT] at e1 I1
            have HAT : Hid (T.length = Ix.cntF (Ix.sameF v) ins ∧ (∀ q ∈ ins, Ix.sameF v (Ix.ofS q) = true → q.tid ∈ T) ∧ T.Pairwise (fun a b => a < b)) := Mm.hid ⟨by rw [hTT, List.length_map]; exact HAN.out.t1, by rw [hTT]; exact HAN.out.m1, by rw [hTT, List.pairwise_map]; exact HAN.out.up.imp (fun h => by omega)⟩
            obtain ⟨nT, hnT⟩ : ∃ n, n = T.length := ⟨_, rfl⟩
            rw [← hnT] at e1
            subst e1
            have HNT : Hid (T.length = nT) := Mm.hid hnT.symm
            have HITf : Hid (Mm.IIn wf q1 T) := Mm.hid I1
            have HSf := Mm.hid (HS.out.below hT.bel)
            clear hT I1 hTT hnT HFI HS c0 c1 c2 c3
            have c0 : wf.cell? ⟨gv, 0, none⟩ = some (.int .i64 v.k) := Mm.cellOf HSf.out.v.at_ rfl
            have c1 : wf.cell? ⟨gv, 1, none⟩ = some (.int .i64 v.n) := Mm.cellOf HSf.out.v.at_ rfl
            have c2 : wf.cell? ⟨gv, 2, none⟩ = some (.float .f64 v.f) := Mm.cellOf HSf.out.v.at_ rfl
            have c3 : wf.cell? ⟨gv, 3, none⟩ = some (.string v.s) := Mm.cellOf HSf.out.v.at_ rfl
            have d0 : wf.cell? ⟨gx, 0, none⟩ = some (.int .i64 x.k) := Mm.cellOf HSf.out.x.at_ rfl
            have d1 : wf.cell? ⟨gx, 1, none⟩ = some (.int .i64 x.n) := Mm.cellOf HSf.out.x.at_ rfl
            have d2 : wf.cell? ⟨gx, 2, none⟩ = some (.float .f64 x.f) := Mm.cellOf HSf.out.x.at_ rfl
            have d3 : wf.cell? ⟨gx, 3, none⟩ = some (.string x.s) := Mm.cellOf HSf.out.x.at_ rfl
            have HFI := Mm.hid (irange_any (Mm.hid HSf.out.q) HK49.out.1 v x (HM.out.below HSf.out.b) HVX.out.1 HVX.out.2)
            go_wp2_with fail
            refine HFI.out.mono ?_
            rintro e wg ⟨vR, vRL, rfl, hT⟩
            obtain ⟨q2, c2', e2, I2⟩ := hT.o1.nin
            obtain ⟨U, hUU⟩ : ∃ U, U = List.map (fun n : Nat => (n : Int)) (Ix.rangeT s v x) := ⟨_, rfl⟩
            rw [← hUU] at e2 I2
            have HAU : Hid (U.length = Ix.cntF (Ix.betwF v x) ins ∧ (∀ q ∈ ins, Ix.betwF v x (Ix.ofS q) = true → q.tid ∈ U)) := Mm.hid ⟨by rw [hUU, List.length_map]; exact HAN.out.t2, by rw [hUU]; exact HAN.out.m2⟩
            obtain ⟨nU, hnU⟩ : ∃ n, n = U.length := ⟨_, rfl⟩
            rw [← hnU] at e2
            subst e2
            have HNU : Hid (U.length = nU) := Mm.hid hnU.symm
            have HIU : Hid (Mm.IIn wg q2 U) := Mm.hid I2
            have HIT : Hid (Mm.IIn wg q1 T) := Mm.hid (HITf.out.below hT.bel)
            have HSg := Mm.hid (HSf.out.below hT.bel)
            have HNN : Hid (nT ≤ 1000 ∧ nU ≤ 1000) := Mm.hid (by
              have f1 := List.length_filter_le (fun q => Ix.sameF v (Ix.ofS q)) ins
              have f2 := List.length_filter_le (fun q => Ix.betwF v x (Ix.ofS q)) ins
              have f3 := HAT.out.1
              have f4 := HAU.out.1
              unfold Ix.cntF at f3 f4
              have f5 := HK49.out.2
              have f6 := HN.out
              rw [hnU]
              have f7 := HNT.out
              omega)
            clear hT I2 hUU hnU HFI HSf HITf HAN c0 c1 c2 c3 d0 d1 d2 d3
            have hn1000 : n ≤ 1000 := HK49.out.2
            go_wp2_with fail
            go_loopw [21, 22, 23] (fun va vb vi wq => ∃ (j a b : Nat), j ≤ n ∧ vi = .int .i64 (j : Int) ∧ va = .int .i64 (a : Int) ∧ vb = .int .i64 (b : Int) ∧ a ≤ j ∧ b ≤ j ∧ Hid (a = Ix.cntF (Ix.sameF v) (ins.take j) ∧ b = Ix.cntF (Ix.betwF v x) (ins.take j)) ∧ Hid (Below wg.heap.size wg wq)) (fun _ _ vi _ => n - (RowKit.intOf vi).toNat)
            case atStart => exact ⟨0, 0, 0, Nat.zero_le _, rfl, rfl, rfl, Nat.le_refl _, Nat.le_refl _, Mm.hid ⟨rfl, rfl⟩, Mm.hid (Below.refl _ _)⟩
            case round =>
              obtain ⟨j, a, b, hj, rfl, rfl, rfl, haj, hbj, HAB, HBr⟩ := hrel
              by_cases hjn : j < n
              · obtain ⟨y, hy⟩ : ∃ y, ins[j]? = some y := ⟨ins[j]'(by rw [← HN.out]; exact hjn), List.getElem?_eq_getElem _⟩
                have HYI := Mm.hid hy
                have HCT : Hid (Ix.cntF (Ix.sameF v) (ins.take (j + 1)) = Ix.cntF (Ix.sameF v) (ins.take j) + (if Ix.sameF v (Ix.ofS y) then 1 else 0) ∧ Ix.cntF (Ix.betwF v x) (ins.take (j + 1)) = Ix.cntF (Ix.betwF v x) (ins.take j) + (if Ix.betwF v x (Ix.ofS y) then 1 else 0)) := Mm.hid ⟨Ix.cnt_take _ hy, Ix.cnt_take _ hy⟩
                obtain ⟨g, hg, hgl, d⟩ := HSg.out.o.at hy
                subst hg
                have HTY : Hid (∀ w', Below wg.heap.size wg w' → w'.cell? ⟨g, j * 10 + 1, none⟩ = some (.int .i64 y.tid)) := Mm.hid (fun w' hw => (d.mono (hw.block g hgl)).c1)
                have HS2 : Hid (∀ w', Below wg.heap.size wg w' → w'.cell? ⟨g, j * 10 + 2, none⟩ = some (.int .i64 y.v.k) ∧ w'.cell? ⟨g, j * 10 + 3, none⟩ = some (.int .i64 y.v.n) ∧ w'.cell? ⟨g, j * 10 + 4, none⟩ = some (.float .f64 y.v.f) ∧ w'.cell? ⟨g, j * 10 + 5, none⟩ = some (.string y.v.s) ∧ w'.cell? ⟨gv, 0, none⟩ = some (.int .i64 v.k) ∧ w'.cell? ⟨gv, 1, none⟩ = some (.int .i64 v.n) ∧ w'.cell? ⟨gv, 2, none⟩ = some (.float .f64 v.f) ∧ w'.cell? ⟨gv, 3, none⟩ = some (.string v.s) ∧ w'.cell? ⟨gx, 0, none⟩ = some (.int .i64 x.k) ∧ w'.cell? ⟨gx, 1, none⟩ = some (.int .i64 x.n) ∧ w'.cell? ⟨gx, 2, none⟩ = some (.float .f64 x.f) ∧ w'.cell? ⟨gx, 3, none⟩ = some (.string x.s)) := Mm.hid (fun w' hw => by
                  have e := d.mono (hw.block g hgl)
                  have e2 := (hw.block gv HSg.out.v.lt).trans HSg.out.v.at_
                  have e3 := (hw.block gx HSg.out.x.lt).trans HSg.out.x.at_
                  exact ⟨e.c2, e.c3, e.c4, e.c5, Mm.cellOf e2 rfl, Mm.cellOf e2 rfl, Mm.cellOf e2 rfl, Mm.cellOf e2 rfl, Mm.cellOf e3 rfl, Mm.cellOf e3 rfl, Mm.cellOf e3 rfl, Mm.cellOf e3 rfl⟩)
                have HS1 : Hid (∀ w', Below wg.heap.size wg w' → w'.cell? ⟨g, j * 10 + 2, none⟩ = some (.int .i64 y.v.k) ∧ w'.cell? ⟨g, j * 10 + 3, none⟩ = some (.int .i64 y.v.n) ∧ w'.cell? ⟨g, j * 10 + 4, none⟩ = some (.float .f64 y.v.f) ∧ w'.cell? ⟨g, j * 10 + 5, none⟩ = some (.string y.v.s) ∧ w'.cell? ⟨gv, 0, none⟩ = some (.int .i64 v.k) ∧ w'.cell? ⟨gv, 1, none⟩ = some (.int .i64 v.n) ∧ w'.cell? ⟨gv, 2, none⟩ = some (.float .f64 v.f) ∧ w'.cell? ⟨gv, 3, none⟩ = some (.string v.s)) := Mm.hid (fun w' hw => by
                  obtain ⟨e0, e1, e2, e3, f0, f1, f2, f3, _⟩ := HS2.out w' hw
                  exact ⟨e0, e1, e2, e3, f0, f1, f2, f3⟩)
                have m1 : (0 : Int) ≤ (j : Int) := by omega
                have m2 : (j : Int) < (n : Int) := by omega
                have HN49 : Hid (nT ≤ 1000000) := Mm.hid (by have := HNN.out; omega)
                have HN4U : Hid (nU ≤ 1000000) := Mm.hid (by have := HNN.out; omega)
                obtain ⟨C1, hC1⟩ : ∃ C, Vl.cmpV y.v v = C := ⟨_, rfl⟩
                obtain ⟨C2, hC2⟩ : ∃ C, Vl.cmpV y.v x = C := ⟨_, rfl⟩
                clear hy d hgl
                by_cases h1 : C1 = 0
                · subst h1
                  have HMT : Hid (y.tid ∈ T) := Mm.hid (HAT.out.2.1 y (List.mem_of_getElem? HYI.out) (by unfold Ix.sameF; rw [show (Ix.ofS y).1 = y.v from rfl, hC1]; exact decide_eq_true rfl))
                  have k1 : decide ((0 : Int) ≤ 0) = true := rfl
                  by_cases h2 : C2 < 0
                  · have HCC : Hid (((0 : Int) = 0) ∧ C2 < 0) := Mm.hid ⟨rfl, h2⟩
                    have HSAME : Hid ((if Ix.sameF v (Ix.ofS y) then 1 else 0) = 1) := Mm.hid (by unfold Ix.sameF; rw [show (Ix.ofS y).1 = y.v from rfl, hC1]; first | (simp; done) | simp [HCC.out])
                    have HBETW : Hid ((if Ix.betwF v x (Ix.ofS y) then 1 else 0) = 1) := Mm.hid (by unfold Ix.betwF; rw [show (Ix.ofS y).1 = y.v from rfl, hC1, hC2]; first | (simp; done) | simp [HCC.out])
                    have HMU : Hid (y.tid ∈ U) := Mm.hid (HAU.out.2 y (List.mem_of_getElem? HYI.out) (by unfold Ix.betwF; rw [show (Ix.ofS y).1 = y.v from rfl, hC1, hC2]; first | (simp; done) | simp [HCC.out]))
                    go_upto_region 27 with fail
                    refine wp_region_held_drew (S := fun w' => w'.cell? ⟨g, j * 10 + 2, none⟩ = some (.int .i64 y.v.k) ∧ w'.cell? ⟨g, j * 10 + 3, none⟩ = some (.int .i64 y.v.n) ∧ w'.cell? ⟨g, j * 10 + 4, none⟩ = some (.float .f64 y.v.f) ∧ w'.cell? ⟨g, j * 10 + 5, none⟩ = some (.string y.v.s) ∧ w'.cell? ⟨gv, 0, none⟩ = some (.int .i64 v.k) ∧ w'.cell? ⟨gv, 1, none⟩ = some (.int .i64 v.n) ∧ w'.cell? ⟨gv, 2, none⟩ = some (.float .f64 v.f) ∧ w'.cell? ⟨gv, 3, none⟩ = some (.string v.s)) (by kernel_rfl) (HS1.out _ (Below.drew HBr.out)) (fun hH => ?_)
                    refine wpAnyH_take (i := 0) (oi := ?or5x0) (v := ?vr5x0) ?hir5x0 ?hsr5x0 ?hfr5x0 ?hrr5x0 ?hQr5x0 (Or.inl ⟨?hwr5x0, ?hyr5x0⟩) ?hSr5x0 ?restr5x0
                    case hir5x0 => (simp; rfl)
                    case hsr5x0 => kernel_rfl
                    case hfr5x0 => kernel_rfl
                    case hrr5x0 => kernel_rfl
                    case hQr5x0 => exact fun _ _ _ h => h
                    case hwr5x0 => rfl
                    case hyr5x0 => (intro wq hSq; (try dsimp only at hSq); go_simp; (try with_reducible rfl))
                    case hSr5x0 => assumption
                    simp only [Act.put, List.setIfInBounds_toArray, List.set_cons_zero, List.set_cons_succ]
                    refine wpAnyH_take (i := 1) (oi := ?or5x1) (v := ?vr5x1) ?hir5x1 ?hsr5x1 ?hfr5x1 ?hrr5x1 ?hQr5x1 (Or.inl ⟨?hwr5x1, ?hyr5x1⟩) ?hSr5x1 ?restr5x1
                    case hir5x1 => (simp; rfl)
                    case hsr5x1 => kernel_rfl
                    case hfr5x1 => kernel_rfl
                    case hrr5x1 => kernel_rfl
                    case hQr5x1 => exact fun _ _ _ h => h
                    case hwr5x1 => rfl
                    case hyr5x1 => (intro wq hSq; (try dsimp only at hSq); go_simp; (try with_reducible rfl))
                    case hSr5x1 => assumption
                    simp only [Act.put, List.setIfInBounds_toArray, List.set_cons_zero, List.set_cons_succ]
                    refine wpAnyH_take (i := 2) (oi := ?or5x2) (v := ?vr5x2) ?hir5x2 ?hsr5x2 ?hfr5x2 ?hrr5x2 ?hQr5x2 (Or.inl ⟨?hwr5x2, ?hyr5x2⟩) ?hSr5x2 ?restr5x2
                    case hir5x2 => (simp; rfl)
                    case hsr5x2 => kernel_rfl
                    case hfr5x2 => kernel_rfl
                    case hrr5x2 => kernel_rfl
                    case hQr5x2 => exact fun _ _ _ h => h
                    case hwr5x2 => rfl
                    case hyr5x2 => (intro wq hSq; (try dsimp only at hSq); go_simp; (try with_reducible rfl))
                    case hSr5x2 => assumption
                    simp only [Act.put, List.setIfInBounds_toArray, List.set_cons_zero, List.set_cons_succ]
                    refine wpAnyH_take (i := 3) (oi := ?or5x3) (v := ?vr5x3) ?hir5x3 ?hsr5x3 ?hfr5x3 ?hrr5x3 ?hQr5x3 (Or.inl ⟨?hwr5x3, ?hyr5x3⟩) ?hSr5x3 ?restr5x3
                    case hir5x3 => (simp; rfl)
                    case hsr5x3 => kernel_rfl
                    case hfr5x3 => kernel_rfl
                    case hrr5x3 => kernel_rfl
                    case hQr5x3 => exact fun _ _ _ h => h
                    case hwr5x3 => rfl
                    case hyr5x3 => (intro wq hSq; (try dsimp only at hSq); go_simp; (try with_reducible rfl))
                    case hSr5x3 => assumption
                    simp only [Act.put, List.setIfInBounds_toArray, List.set_cons_zero, List.set_cons_succ]
                    refine wpAnyH_take (i := 4) (oi := ?or5x4) (v := ?vr5x4) ?hir5x4 ?hsr5x4 ?hfr5x4 ?hrr5x4 ?hQr5x4 (Or.inl ⟨?hwr5x4, ?hyr5x4⟩) ?hSr5x4 ?restr5x4
                    case hir5x4 => (simp; rfl)
                    case hsr5x4 => kernel_rfl
                    case hfr5x4 => kernel_rfl
                    case hrr5x4 => kernel_rfl
                    case hQr5x4 => exact fun _ _ _ h => h
                    case hwr5x4 => rfl
                    case hyr5x4 => (intro wq hSq; (try dsimp only at hSq); go_simp; (try with_reducible rfl))
                    case hSr5x4 => assumption
                    simp only [Act.put, List.setIfInBounds_toArray, List.set_cons_zero, List.set_cons_succ]
                    refine wpAnyH_take (i := 5) (oi := ?or5x5) (v := ?vr5x5) ?hir5x5 ?hsr5x5 ?hfr5x5 ?hrr5x5 ?hQr5x5 (Or.inl ⟨?hwr5x5, ?hyr5x5⟩) ?hSr5x5 ?restr5x5
                    case hir5x5 => (simp; rfl)
                    case hsr5x5 => kernel_rfl
                    case hfr5x5 => kernel_rfl
                    case hrr5x5 => kernel_rfl
                    case hQr5x5 => exact fun _ _ _ h => h
                    case hwr5x5 => rfl
                    case hyr5x5 => (intro wq hSq; (try dsimp only at hSq); go_simp; (try with_reducible rfl))
                    case hSr5x5 => assumption
                    simp only [Act.put, List.setIfInBounds_toArray, List.set_cons_zero, List.set_cons_succ]
                    refine wpAnyH_ready (rs := [6]) (by kernel_rfl) (by simp) ?_
                    refine AllReadyH.cons (o := ?or5x6) ?hir5x6 (fun K hK => ?_) AllReadyH.nil
                    case hir5x6 => (simp; rfl)
                    go_simp
                    refine (refCmpV_any y.v v _).mono ?_
                    rintro e w3 ⟨rfl, hb9⟩
                    rw [hC1]
                    have HB3 : Hid (Below wg.heap.size wg w3) := Mm.hid (by rw [hb9]; exact ((Below.drew HBr.out).alloc ((Below.drew HBr.out)).size _).alloc (Nat.le_trans ((Below.drew HBr.out)).size (by simp)) _)
                    clear hb9
                    go_wp2_with fail
                    refine hK.out _ _ (HS1.out _ HB3.out) (fun hHr5x6 => ?_)
                    clear hK K
                    refine wpAnyH_take (i := 7) (oi := ?or5x7) (v := ?vr5x7) ?hir5x7 ?hsr5x7 ?hfr5x7 ?hrr5x7 ?hQr5x7 (Or.inl ⟨?hwr5x7, ?hyr5x7⟩) ?hSr5x7 ?restr5x7
                    case hir5x7 => (simp; rfl)
                    case hsr5x7 => kernel_rfl
                    case hfr5x7 => kernel_rfl
                    case hrr5x7 => kernel_rfl
                    case hQr5x7 => exact fun _ _ _ h => h
                    case hwr5x7 => rfl
                    case hyr5x7 => (intro wq hSq; (try dsimp only at hSq); go_simp; (try with_reducible rfl))
                    case hSr5x7 => assumption
                    simp only [Act.put, List.setIfInBounds_toArray, List.set_cons_zero, List.set_cons_succ]
                    refine wpAnyH_done (by kernel_rfl) ?_ _
                    go_upto_region 29 with fail
                    have e1 := HTY.out _ HB3.out
                    have HHS := Mm.hid (hask_any T q1 nT c1' y.tid _ (Mm.hid (HIT.out.below HB3.out)) HNT HN49.out)
                    rw [decide_eq_true HMT.out] at HHS
                    go_wp2_with fail
                    refine HHS.out.mono ?_
                    rintro e w3h ⟨rfl, hq9⟩
                    obtain rfl := hq9.symm
                    clear hq9 e1 HHS
                    go_upto_region 31 with fail
                    refine wp_region_held_drew (S := fun w' => w'.cell? ⟨g, j * 10 + 2, none⟩ = some (.int .i64 y.v.k) ∧ w'.cell? ⟨g, j * 10 + 3, none⟩ = some (.int .i64 y.v.n) ∧ w'.cell? ⟨g, j * 10 + 4, none⟩ = some (.float .f64 y.v.f) ∧ w'.cell? ⟨g, j * 10 + 5, none⟩ = some (.string y.v.s) ∧ w'.cell? ⟨gv, 0, none⟩ = some (.int .i64 v.k) ∧ w'.cell? ⟨gv, 1, none⟩ = some (.int .i64 v.n) ∧ w'.cell? ⟨gv, 2, none⟩ = some (.float .f64 v.f) ∧ w'.cell? ⟨gv, 3, none⟩ = some (.string v.s) ∧ w'.cell? ⟨gx, 0, none⟩ = some (.int .i64 x.k) ∧ w'.cell? ⟨gx, 1, none⟩ = some (.int .i64 x.n) ∧ w'.cell? ⟨gx, 2, none⟩ = some (.float .f64 x.f) ∧ w'.cell? ⟨gx, 3, none⟩ = some (.string x.s)) (by kernel_rfl) (HS2.out _ (Below.drew HB3.out)) (fun hH => ?_)
                    refine wpAnyH_take (i := 0) (oi := ?or6x0) (v := ?vr6x0) ?hir6x0 ?hsr6x0 ?hfr6x0 ?hrr6x0 ?hQr6x0 (Or.inl ⟨?hwr6x0, ?hyr6x0⟩) ?hSr6x0 ?restr6x0
                    case hir6x0 => (simp; rfl)
                    case hsr6x0 => kernel_rfl
                    case hfr6x0 => kernel_rfl
                    case hrr6x0 => kernel_rfl
                    case hQr6x0 => exact fun _ _ _ h => h
                    case hwr6x0 => rfl
                    case hyr6x0 => (intro wq hSq; (try dsimp only at hSq); go_simp; (try with_reducible rfl))
                    case hSr6x0 => assumption
                    simp only [Act.put, List.setIfInBounds_toArray, List.set_cons_zero, List.set_cons_succ]
                    refine wpAnyH_take (i := 1) (oi := ?or6x1) (v := ?vr6x1) ?hir6x1 ?hsr6x1 ?hfr6x1 ?hrr6x1 ?hQr6x1 (Or.inl ⟨?hwr6x1, ?hyr6x1⟩) ?hSr6x1 ?restr6x1
                    case hir6x1 => (simp; rfl)
                    case hsr6x1 => kernel_rfl
                    case hfr6x1 => kernel_rfl
                    case hrr6x1 => kernel_rfl
                    case hQr6x1 => exact fun _ _ _ h => h
                    case hwr6x1 => rfl
                    case hyr6x1 => (intro wq hSq; (try dsimp only at hSq); go_simp; (try with_reducible rfl))
                    case hSr6x1 => assumption
                    simp only [Act.put, List.setIfInBounds_toArray, List.set_cons_zero, List.set_cons_succ]
                    refine wpAnyH_take (i := 2) (oi := ?or6x2) (v := ?vr6x2) ?hir6x2 ?hsr6x2 ?hfr6x2 ?hrr6x2 ?hQr6x2 (Or.inl ⟨?hwr6x2, ?hyr6x2⟩) ?hSr6x2 ?restr6x2
                    case hir6x2 => (simp; rfl)
                    case hsr6x2 => kernel_rfl
                    case hfr6x2 => kernel_rfl
                    case hrr6x2 => kernel_rfl
                    case hQr6x2 => exact fun _ _ _ h => h
                    case hwr6x2 => rfl
                    case hyr6x2 => (intro wq hSq; (try dsimp only at hSq); go_simp; (try with_reducible rfl))
                    case hSr6x2 => assumption
                    simp only [Act.put, List.setIfInBounds_toArray, List.set_cons_zero, List.set_cons_succ]
                    refine wpAnyH_take (i := 3) (oi := ?or6x3) (v := ?vr6x3) ?hir6x3 ?hsr6x3 ?hfr6x3 ?hrr6x3 ?hQr6x3 (Or.inl ⟨?hwr6x3, ?hyr6x3⟩) ?hSr6x3 ?restr6x3
                    case hir6x3 => (simp; rfl)
                    case hsr6x3 => kernel_rfl
                    case hfr6x3 => kernel_rfl
                    case hrr6x3 => kernel_rfl
                    case hQr6x3 => exact fun _ _ _ h => h
                    case hwr6x3 => rfl
                    case hyr6x3 => (intro wq hSq; (try dsimp only at hSq); go_simp; (try with_reducible rfl))
                    case hSr6x3 => assumption
                    simp only [Act.put, List.setIfInBounds_toArray, List.set_cons_zero, List.set_cons_succ]
                    refine wpAnyH_take (i := 4) (oi := ?or6x4) (v := ?vr6x4) ?hir6x4 ?hsr6x4 ?hfr6x4 ?hrr6x4 ?hQr6x4 (Or.inl ⟨?hwr6x4, ?hyr6x4⟩) ?hSr6x4 ?restr6x4
                    case hir6x4 => (simp; rfl)
                    case hsr6x4 => kernel_rfl
                    case hfr6x4 => kernel_rfl
                    case hrr6x4 => kernel_rfl
                    case hQr6x4 => exact fun _ _ _ h => h
                    case hwr6x4 => rfl
                    case hyr6x4 => (intro wq hSq; (try dsimp only at hSq); go_simp; (try with_reducible rfl))
                    case hSr6x4 => assumption
                    simp only [Act.put, List.setIfInBounds_toArray, List.set_cons_zero, List.set_cons_succ]
                    refine wpAnyH_take (i := 5) (oi := ?or6x5) (v := ?vr6x5) ?hir6x5 ?hsr6x5 ?hfr6x5 ?hrr6x5 ?hQr6x5 (Or.inl ⟨?hwr6x5, ?hyr6x5⟩) ?hSr6x5 ?restr6x5
                    case hir6x5 => (simp; rfl)
                    case hsr6x5 => kernel_rfl
                    case hfr6x5 => kernel_rfl
                    case hrr6x5 => kernel_rfl
                    case hQr6x5 => exact fun _ _ _ h => h
                    case hwr6x5 => rfl
                    case hyr6x5 => (intro wq hSq; (try dsimp only at hSq); go_simp; (try with_reducible rfl))
                    case hSr6x5 => assumption
                    simp only [Act.put, List.setIfInBounds_toArray, List.set_cons_zero, List.set_cons_succ]
                    refine wpAnyH_ready (rs := [6]) (by kernel_rfl) (by simp) ?_
                    refine AllReadyH.cons (o := ?or6x6) ?hir6x6 (fun K hK => ?_) AllReadyH.nil
                    case hir6x6 => (simp; rfl)
                    go_simp
                    refine (refCmpV_any y.v v _).mono ?_
                    rintro e w4 ⟨rfl, hb9⟩
                    rw [hC1]
                    have HB4 : Hid (Below wg.heap.size wg w4) := Mm.hid (by rw [hb9]; exact ((Below.drew HB3.out).alloc ((Below.drew HB3.out)).size _).alloc (Nat.le_trans ((Below.drew HB3.out)).size (by simp)) _)
                    clear hb9
                    go_wp2_with fail
                    refine hK.out _ _ (HS2.out _ HB4.out) (fun hHr6x6 => ?_)
                    clear hK K
                    refine wpAnyH_take (i := 7) (oi := ?or6x7) (v := ?vr6x7) ?hir6x7 ?hsr6x7 ?hfr6x7 ?hrr6x7 ?hQr6x7 (Or.inl ⟨?hwr6x7, ?hyr6x7⟩) ?hSr6x7 ?restr6x7
                    case hir6x7 => (simp; rfl)
                    case hsr6x7 => kernel_rfl
                    case hfr6x7 => kernel_rfl
                    case hrr6x7 => kernel_rfl
                    case hQr6x7 => exact fun _ _ _ h => h
                    case hwr6x7 => rfl
                    case hyr6x7 => (intro wq hSq; (try dsimp only at hSq); go_simp; (try with_reducible rfl))
                    case hSr6x7 => assumption
                    simp only [Act.put, List.setIfInBounds_toArray, List.set_cons_zero, List.set_cons_succ]
                    refine wpAnyH_take (i := 8) (oi := ?or6x8) (v := ?vr6x8) ?hir6x8 ?hsr6x8 ?hfr6x8 ?hrr6x8 ?hQr6x8 (Or.inl ⟨?hwr6x8, ?hyr6x8⟩) ?hSr6x8 ?restr6x8
                    case hir6x8 => (simp; rfl)
                    case hsr6x8 => kernel_rfl
                    case hfr6x8 => kernel_rfl
                    case hrr6x8 => kernel_rfl
                    case hQr6x8 => exact fun _ _ _ h => h
                    case hwr6x8 => rfl
                    case hyr6x8 => (intro wq hSq; (try dsimp only at hSq); go_simp; (try with_reducible rfl))
                    case hSr6x8 => assumption
                    simp only [Act.put, List.setIfInBounds_toArray, List.set_cons_zero, List.set_cons_succ]
                    refine wpAnyH_take (i := 9) (oi := ?or6x9) (v := ?vr6x9) ?hir6x9 ?hsr6x9 ?hfr6x9 ?hrr6x9 ?hQr6x9 (Or.inl ⟨?hwr6x9, ?hyr6x9⟩) ?hSr6x9 ?restr6x9
                    case hir6x9 => (simp; rfl)
                    case hsr6x9 => kernel_rfl
                    case hfr6x9 => kernel_rfl
                    case hrr6x9 => kernel_rfl
                    case hQr6x9 => exact fun _ _ _ h => h
                    case hwr6x9 => rfl
                    case hyr6x9 => (intro wq hSq; (try dsimp only at hSq); go_simp; (try with_reducible rfl))
                    case hSr6x9 => assumption
                    simp only [Act.put, List.setIfInBounds_toArray, List.set_cons_zero, List.set_cons_succ]
                    refine wpAnyH_take (i := 10) (oi := ?or6x10) (v := ?vr6x10) ?hir6x10 ?hsr6x10 ?hfr6x10 ?hrr6x10 ?hQr6x10 (Or.inl ⟨?hwr6x10, ?hyr6x10⟩) ?hSr6x10 ?restr6x10
                    case hir6x10 => (simp; rfl)
                    case hsr6x10 => kernel_rfl
                    case hfr6x10 => kernel_rfl
                    case hrr6x10 => kernel_rfl
                    case hQr6x10 => exact fun _ _ _ h => h
                    case hwr6x10 => rfl
                    case hyr6x10 => (intro wq hSq; (try dsimp only at hSq); go_simp; (try with_reducible rfl))
                    case hSr6x10 => assumption
                    simp only [Act.put, List.setIfInBounds_toArray, List.set_cons_zero, List.set_cons_succ]
                    refine wpAnyH_take (i := 11) (oi := ?or6x11) (v := ?vr6x11) ?hir6x11 ?hsr6x11 ?hfr6x11 ?hrr6x11 ?hQr6x11 (Or.inl ⟨?hwr6x11, ?hyr6x11⟩) ?hSr6x11 ?restr6x11
                    case hir6x11 => (simp; rfl)
                    case hsr6x11 => kernel_rfl
                    case hfr6x11 => kernel_rfl
                    case hrr6x11 => kernel_rfl
                    case hQr6x11 => exact fun _ _ _ h => h
                    case hwr6x11 => rfl
                    case hyr6x11 => (intro wq hSq; (try dsimp only at hSq); go_simp; (try with_reducible rfl))
                    case hSr6x11 => assumption
                    simp only [Act.put, List.setIfInBounds_toArray, List.set_cons_zero, List.set_cons_succ]
                    refine wpAnyH_take (i := 12) (oi := ?or6x12) (v := ?vr6x12) ?hir6x12 ?hsr6x12 ?hfr6x12 ?hrr6x12 ?hQr6x12 (Or.inl ⟨?hwr6x12, ?hyr6x12⟩) ?hSr6x12 ?restr6x12
                    case hir6x12 => (simp; rfl)
                    case hsr6x12 => kernel_rfl
                    case hfr6x12 => kernel_rfl
                    case hrr6x12 => kernel_rfl
                    case hQr6x12 => exact fun _ _ _ h => h
                    case hwr6x12 => rfl
                    case hyr6x12 => (intro wq hSq; (try dsimp only at hSq); go_simp; (try with_reducible rfl))
                    case hSr6x12 => assumption
                    simp only [Act.put, List.setIfInBounds_toArray, List.set_cons_zero, List.set_cons_succ]
                    refine wpAnyH_take (i := 13) (oi := ?or6x13) (v := ?vr6x13) ?hir6x13 ?hsr6x13 ?hfr6x13 ?hrr6x13 ?hQr6x13 (Or.inl ⟨?hwr6x13, ?hyr6x13⟩) ?hSr6x13 ?restr6x13
                    case hir6x13 => (simp; rfl)
                    case hsr6x13 => kernel_rfl
                    case hfr6x13 => kernel_rfl
                    case hrr6x13 => kernel_rfl
                    case hQr6x13 => exact fun _ _ _ h => h
                    case hwr6x13 => rfl
                    case hyr6x13 => (intro wq hSq; (try dsimp only at hSq); go_simp; (try with_reducible rfl))
                    case hSr6x13 => assumption
                    simp only [Act.put, List.setIfInBounds_toArray, List.set_cons_zero, List.set_cons_succ]
                    refine wpAnyH_take (i := 14) (oi := ?or6x14) (v := ?vr6x14) ?hir6x14 ?hsr6x14 ?hfr6x14 ?hrr6x14 ?hQr6x14 (Or.inl ⟨?hwr6x14, ?hyr6x14⟩) ?hSr6x14 ?restr6x14
                    case hir6x14 => (simp; rfl)
                    case hsr6x14 => kernel_rfl
                    case hfr6x14 => kernel_rfl
                    case hrr6x14 => kernel_rfl
                    case hQr6x14 => exact fun _ _ _ h => h
                    case hwr6x14 => rfl
                    case hyr6x14 => (intro wq hSq; (try dsimp only at hSq); go_simp; (try with_reducible rfl))
                    case hSr6x14 => assumption
                    simp only [Act.put, List.setIfInBounds_toArray, List.set_cons_zero, List.set_cons_succ]
                    refine wpAnyH_ready (rs := [15]) (by kernel_rfl) (by simp) ?_
                    refine AllReadyH.cons (o := ?or6x15) ?hir6x15 (fun K hK => ?_) AllReadyH.nil
                    case hir6x15 => (simp; rfl)
                    go_simp
                    refine (refCmpV_any y.v x _).mono ?_
                    rintro e w4b ⟨rfl, hb9⟩
                    rw [hC2]
                    have HB4b : Hid (Below wg.heap.size wg w4b) := Mm.hid (by rw [hb9]; exact (HB4.out.alloc (HB4.out).size _).alloc (Nat.le_trans (HB4.out).size (by simp)) _)
                    clear hb9
                    go_wp2_with fail
                    refine hK.out _ _ (HS2.out _ HB4b.out) (fun hHr6x15 => ?_)
                    clear hK K
                    refine wpAnyH_take (i := 16) (oi := ?or6x16) (v := ?vr6x16) ?hir6x16 ?hsr6x16 ?hfr6x16 ?hrr6x16 ?hQr6x16 (Or.inl ⟨?hwr6x16, ?hyr6x16⟩) ?hSr6x16 ?restr6x16
                    case hir6x16 => (simp; rfl)
                    case hsr6x16 => kernel_rfl
                    case hfr6x16 => kernel_rfl
                    case hrr6x16 => kernel_rfl
                    case hQr6x16 => exact fun _ _ _ h => h
                    case hwr6x16 => rfl
                    case hyr6x16 => (intro wq hSq; (try dsimp only at hSq); go_simp; (try with_reducible rfl))
                    case hSr6x16 => assumption
                    simp only [Act.put, List.setIfInBounds_toArray, List.set_cons_zero, List.set_cons_succ]
                    refine wpAnyH_take (i := 17) (oi := ?or6x17) (v := ?vr6x17) ?hir6x17 ?hsr6x17 ?hfr6x17 ?hrr6x17 ?hQr6x17 (Or.inl ⟨?hwr6x17, ?hyr6x17⟩) ?hSr6x17 ?restr6x17
                    case hir6x17 => (simp; rfl)
                    case hsr6x17 => kernel_rfl
                    case hfr6x17 => kernel_rfl
                    case hrr6x17 => kernel_rfl
                    case hQr6x17 => exact fun _ _ _ h => h
                    case hwr6x17 => rfl
                    case hyr6x17 => (intro wq hSq; (try dsimp only at hSq); go_simp; (try with_reducible rfl))
                    case hSr6x17 => assumption
                    simp only [Act.put, List.setIfInBounds_toArray, List.set_cons_zero, List.set_cons_succ]
                    refine wpAnyH_done (by kernel_rfl) ?_ _
                    go_upto_region 33 with fail
                    have e1 := HTY.out _ HB4b.out
                    have HHS := Mm.hid (hask_any U q2 nU c2' y.tid _ (Mm.hid (HIU.out.below HB4b.out)) HNU HN4U.out)
                    rw [decide_eq_true HMU.out] at HHS
                    go_wp2_with fail
                    refine HHS.out.mono ?_
                    rintro e w4h ⟨rfl, hq9⟩
                    obtain rfl := hq9.symm
                    clear hq9 e1 HHS
                    go_wp2_with fail
                    exact ⟨⟨j + 1, a + 1, b + 1, by omega, by go_num, by go_num, by go_num, by omega, by omega, Mm.hid ⟨by rw [HCT.out.1, HSAME.out, ← HAB.out.1], by rw [HCT.out.2, HBETW.out, ← HAB.out.2]⟩, HB4b⟩, by simp [RowKit.intOf]; omega⟩
                  · have HCC : Hid (((0 : Int) = 0) ∧ ¬ C2 < 0) := Mm.hid ⟨rfl, h2⟩
                    have HSAME : Hid ((if Ix.sameF v (Ix.ofS y) then 1 else 0) = 1) := Mm.hid (by unfold Ix.sameF; rw [show (Ix.ofS y).1 = y.v from rfl, hC1]; first | (simp; done) | simp [HCC.out])
                    have HBETW : Hid ((if Ix.betwF v x (Ix.ofS y) then 1 else 0) = 0) := Mm.hid (by unfold Ix.betwF; rw [show (Ix.ofS y).1 = y.v from rfl, hC1, hC2]; first | (simp; done) | simp [HCC.out])
                    go_upto_region 27 with fail
                    refine wp_region_held_drew (S := fun w' => w'.cell? ⟨g, j * 10 + 2, none⟩ = some (.int .i64 y.v.k) ∧ w'.cell? ⟨g, j * 10 + 3, none⟩ = some (.int .i64 y.v.n) ∧ w'.cell? ⟨g, j * 10 + 4, none⟩ = some (.float .f64 y.v.f) ∧ w'.cell? ⟨g, j * 10 + 5, none⟩ = some (.string y.v.s) ∧ w'.cell? ⟨gv, 0, none⟩ = some (.int .i64 v.k) ∧ w'.cell? ⟨gv, 1, none⟩ = some (.int .i64 v.n) ∧ w'.cell? ⟨gv, 2, none⟩ = some (.float .f64 v.f) ∧ w'.cell? ⟨gv, 3, none⟩ = some (.string v.s)) (by kernel_rfl) (HS1.out _ (Below.drew HBr.out)) (fun hH => ?_)
                    refine wpAnyH_take (i := 0) (oi := ?or7x0) (v := ?vr7x0) ?hir7x0 ?hsr7x0 ?hfr7x0 ?hrr7x0 ?hQr7x0 (Or.inl ⟨?hwr7x0, ?hyr7x0⟩) ?hSr7x0 ?restr7x0
                    case hir7x0 => (simp; rfl)
                    case hsr7x0 => kernel_rfl
                    case hfr7x0 => kernel_rfl
                    case hrr7x0 => kernel_rfl
                    case hQr7x0 => exact fun _ _ _ h => h
                    case hwr7x0 => rfl
                    case hyr7x0 => (intro wq hSq; (try dsimp only at hSq); go_simp; (try with_reducible rfl))
                    case hSr7x0 => assumption
                    simp only [Act.put, List.setIfInBounds_toArray, List.set_cons_zero, List.set_cons_succ]
                    refine wpAnyH_take (i := 1) (oi := ?or7x1) (v := ?vr7x1) ?hir7x1 ?hsr7x1 ?hfr7x1 ?hrr7x1 ?hQr7x1 (Or.inl ⟨?hwr7x1, ?hyr7x1⟩) ?hSr7x1 ?restr7x1
                    case hir7x1 => (simp; rfl)
                    case hsr7x1 => kernel_rfl
                    case hfr7x1 => kernel_rfl
                    case hrr7x1 => kernel_rfl
                    case hQr7x1 => exact fun _ _ _ h => h
                    case hwr7x1 => rfl
                    case hyr7x1 => (intro wq hSq; (try dsimp only at hSq); go_simp; (try with_reducible rfl))
                    case hSr7x1 => assumption
                    simp only [Act.put, List.setIfInBounds_toArray, List.set_cons_zero, List.set_cons_succ]
                    refine wpAnyH_take (i := 2) (oi := ?or7x2) (v := ?vr7x2) ?hir7x2 ?hsr7x2 ?hfr7x2 ?hrr7x2 ?hQr7x2 (Or.inl ⟨?hwr7x2, ?hyr7x2⟩) ?hSr7x2 ?restr7x2
                    case hir7x2 => (simp; rfl)
                    case hsr7x2 => kernel_rfl
                    case hfr7x2 => kernel_rfl
                    case hrr7x2 => kernel_rfl
                    case hQr7x2 => exact fun _ _ _ h => h
                    case hwr7x2 => rfl
                    case hyr7x2 => (intro wq hSq; (try dsimp only at hSq); go_simp; (try with_reducible rfl))
                    case hSr7x2 => assumption
                    simp only [Act.put, List.setIfInBounds_toArray, List.set_cons_zero, List.set_cons_succ]
                    refine wpAnyH_take (i := 3) (oi := ?or7x3) (v := ?vr7x3) ?hir7x3 ?hsr7x3 ?hfr7x3 ?hrr7x3 ?hQr7x3 (Or.inl ⟨?hwr7x3, ?hyr7x3⟩) ?hSr7x3 ?restr7x3
                    case hir7x3 => (simp; rfl)
                    case hsr7x3 => kernel_rfl
                    case hfr7x3 => kernel_rfl
                    case hrr7x3 => kernel_rfl
                    case hQr7x3 => exact fun _ _ _ h => h
                    case hwr7x3 => rfl
                    case hyr7x3 => (intro wq hSq; (try dsimp only at hSq); go_simp; (try with_reducible rfl))
                    case hSr7x3 => assumption
                    simp only [Act.put, List.setIfInBounds_toArray, List.set_cons_zero, List.set_cons_succ]
                    refine wpAnyH_take (i := 4) (oi := ?or7x4) (v := ?vr7x4) ?hir7x4 ?hsr7x4 ?hfr7x4 ?hrr7x4 ?hQr7x4 (Or.inl ⟨?hwr7x4, ?hyr7x4⟩) ?hSr7x4 ?restr7x4
                    case hir7x4 => (simp; rfl)
                    case hsr7x4 => kernel_rfl
                    case hfr7x4 => kernel_rfl
                    case hrr7x4 => kernel_rfl
                    case hQr7x4 => exact fun _ _ _ h => h
                    case hwr7x4 => rfl
                    case hyr7x4 => (intro wq hSq; (try dsimp only at hSq); go_simp; (try with_reducible rfl))
                    case hSr7x4 => assumption
                    simp only [Act.put, List.setIfInBounds_toArray, List.set_cons_zero, List.set_cons_succ]
                    refine wpAnyH_take (i := 5) (oi := ?or7x5) (v := ?vr7x5) ?hir7x5 ?hsr7x5 ?hfr7x5 ?hrr7x5 ?hQr7x5 (Or.inl ⟨?hwr7x5, ?hyr7x5⟩) ?hSr7x5 ?restr7x5
                    case hir7x5 => (simp; rfl)
                    case hsr7x5 => kernel_rfl
                    case hfr7x5 => kernel_rfl
                    case hrr7x5 => kernel_rfl
                    case hQr7x5 => exact fun _ _ _ h => h
                    case hwr7x5 => rfl
                    case hyr7x5 => (intro wq hSq; (try dsimp only at hSq); go_simp; (try with_reducible rfl))
                    case hSr7x5 => assumption
                    simp only [Act.put, List.setIfInBounds_toArray, List.set_cons_zero, List.set_cons_succ]
                    refine wpAnyH_ready (rs := [6]) (by kernel_rfl) (by simp) ?_
                    refine AllReadyH.cons (o := ?or7x6) ?hir7x6 (fun K hK => ?_) AllReadyH.nil
                    case hir7x6 => (simp; rfl)
                    go_simp
                    refine (refCmpV_any y.v v _).mono ?_
                    rintro e w3 ⟨rfl, hb9⟩
                    rw [hC1]
                    have HB3 : Hid (Below wg.heap.size wg w3) := Mm.hid (by rw [hb9]; exact ((Below.drew HBr.out).alloc ((Below.drew HBr.out)).size _).alloc (Nat.le_trans ((Below.drew HBr.out)).size (by simp)) _)
                    clear hb9
                    go_wp2_with fail
                    refine hK.out _ _ (HS1.out _ HB3.out) (fun hHr7x6 => ?_)
                    clear hK K
                    refine wpAnyH_take (i := 7) (oi := ?or7x7) (v := ?vr7x7) ?hir7x7 ?hsr7x7 ?hfr7x7 ?hrr7x7 ?hQr7x7 (Or.inl ⟨?hwr7x7, ?hyr7x7⟩) ?hSr7x7 ?restr7x7
                    case hir7x7 => (simp; rfl)
                    case hsr7x7 => kernel_rfl
                    case hfr7x7 => kernel_rfl
                    case hrr7x7 => kernel_rfl
                    case hQr7x7 => exact fun _ _ _ h => h
                    case hwr7x7 => rfl
                    case hyr7x7 => (intro wq hSq; (try dsimp only at hSq); go_simp; (try with_reducible rfl))
                    case hSr7x7 => assumption
                    simp only [Act.put, List.setIfInBounds_toArray, List.set_cons_zero, List.set_cons_succ]
                    refine wpAnyH_done (by kernel_rfl) ?_ _
                    go_upto_region 29 with fail
                    have e1 := HTY.out _ HB3.out
                    have HHS := Mm.hid (hask_any T q1 nT c1' y.tid _ (Mm.hid (HIT.out.below HB3.out)) HNT HN49.out)
                    rw [decide_eq_true HMT.out] at HHS
                    go_wp2_with fail
                    refine HHS.out.mono ?_
                    rintro e w3h ⟨rfl, hq9⟩
                    obtain rfl := hq9.symm
                    clear hq9 e1 HHS
                    go_upto_region 31 with fail
                    refine wp_region_held_drew (S := fun w' => w'.cell? ⟨g, j * 10 + 2, none⟩ = some (.int .i64 y.v.k) ∧ w'.cell? ⟨g, j * 10 + 3, none⟩ = some (.int .i64 y.v.n) ∧ w'.cell? ⟨g, j * 10 + 4, none⟩ = some (.float .f64 y.v.f) ∧ w'.cell? ⟨g, j * 10 + 5, none⟩ = some (.string y.v.s) ∧ w'.cell? ⟨gv, 0, none⟩ = some (.int .i64 v.k) ∧ w'.cell? ⟨gv, 1, none⟩ = some (.int .i64 v.n) ∧ w'.cell? ⟨gv, 2, none⟩ = some (.float .f64 v.f) ∧ w'.cell? ⟨gv, 3, none⟩ = some (.string v.s) ∧ w'.cell? ⟨gx, 0, none⟩ = some (.int .i64 x.k) ∧ w'.cell? ⟨gx, 1, none⟩ = some (.int .i64 x.n) ∧ w'.cell? ⟨gx, 2, none⟩ = some (.float .f64 x.f) ∧ w'.cell? ⟨gx, 3, none⟩ = some (.string x.s)) (by kernel_rfl) (HS2.out _ (Below.drew HB3.out)) (fun hH => ?_)
                    refine wpAnyH_take (i := 0) (oi := ?or8x0) (v := ?vr8x0) ?hir8x0 ?hsr8x0 ?hfr8x0 ?hrr8x0 ?hQr8x0 (Or.inl ⟨?hwr8x0, ?hyr8x0⟩) ?hSr8x0 ?restr8x0
                    case hir8x0 => (simp; rfl)
                    case hsr8x0 => kernel_rfl
                    case hfr8x0 => kernel_rfl
                    case hrr8x0 => kernel_rfl
                    case hQr8x0 => exact fun _ _ _ h => h
                    case hwr8x0 => rfl
                    case hyr8x0 => (intro wq hSq; (try dsimp only at hSq); go_simp; (try with_reducible rfl))
                    case hSr8x0 => assumption
                    simp only [Act.put, List.setIfInBounds_toArray, List.set_cons_zero, List.set_cons_succ]
                    refine wpAnyH_take (i := 1) (oi := ?or8x1) (v := ?vr8x1) ?hir8x1 ?hsr8x1 ?hfr8x1 ?hrr8x1 ?hQr8x1 (Or.inl ⟨?hwr8x1, ?hyr8x1⟩) ?hSr8x1 ?restr8x1
                    case hir8x1 => (simp; rfl)
                    case hsr8x1 => kernel_rfl
                    case hfr8x1 => kernel_rfl
                    case hrr8x1 => kernel_rfl
                    case hQr8x1 => exact fun _ _ _ h => h
                    case hwr8x1 => rfl
                    case hyr8x1 => (intro wq hSq; (try dsimp only at hSq); go_simp; (try with_reducible rfl))
                    case hSr8x1 => assumption
                    simp only [Act.put, List.setIfInBounds_toArray, List.set_cons_zero, List.set_cons_succ]
                    refine wpAnyH_take (i := 2) (oi := ?or8x2) (v := ?vr8x2) ?hir8x2 ?hsr8x2 ?hfr8x2 ?hrr8x2 ?hQr8x2 (Or.inl ⟨?hwr8x2, ?hyr8x2⟩) ?hSr8x2 ?restr8x2
                    case hir8x2 => (simp; rfl)
                    case hsr8x2 => kernel_rfl
                    case hfr8x2 => kernel_rfl
                    case hrr8x2 => kernel_rfl
                    case hQr8x2 => exact fun _ _ _ h => h
                    case hwr8x2 => rfl
                    case hyr8x2 => (intro wq hSq; (try dsimp only at hSq); go_simp; (try with_reducible rfl))
                    case hSr8x2 => assumption
                    simp only [Act.put, List.setIfInBounds_toArray, List.set_cons_zero, List.set_cons_succ]
                    refine wpAnyH_take (i := 3) (oi := ?or8x3) (v := ?vr8x3) ?hir8x3 ?hsr8x3 ?hfr8x3 ?hrr8x3 ?hQr8x3 (Or.inl ⟨?hwr8x3, ?hyr8x3⟩) ?hSr8x3 ?restr8x3
                    case hir8x3 => (simp; rfl)
                    case hsr8x3 => kernel_rfl
                    case hfr8x3 => kernel_rfl
                    case hrr8x3 => kernel_rfl
                    case hQr8x3 => exact fun _ _ _ h => h
                    case hwr8x3 => rfl
                    case hyr8x3 => (intro wq hSq; (try dsimp only at hSq); go_simp; (try with_reducible rfl))
                    case hSr8x3 => assumption
                    simp only [Act.put, List.setIfInBounds_toArray, List.set_cons_zero, List.set_cons_succ]
                    refine wpAnyH_take (i := 4) (oi := ?or8x4) (v := ?vr8x4) ?hir8x4 ?hsr8x4 ?hfr8x4 ?hrr8x4 ?hQr8x4 (Or.inl ⟨?hwr8x4, ?hyr8x4⟩) ?hSr8x4 ?restr8x4
                    case hir8x4 => (simp; rfl)
                    case hsr8x4 => kernel_rfl
                    case hfr8x4 => kernel_rfl
                    case hrr8x4 => kernel_rfl
                    case hQr8x4 => exact fun _ _ _ h => h
                    case hwr8x4 => rfl
                    case hyr8x4 => (intro wq hSq; (try dsimp only at hSq); go_simp; (try with_reducible rfl))
                    case hSr8x4 => assumption
                    simp only [Act.put, List.setIfInBounds_toArray, List.set_cons_zero, List.set_cons_succ]
                    refine wpAnyH_take (i := 5) (oi := ?or8x5) (v := ?vr8x5) ?hir8x5 ?hsr8x5 ?hfr8x5 ?hrr8x5 ?hQr8x5 (Or.inl ⟨?hwr8x5, ?hyr8x5⟩) ?hSr8x5 ?restr8x5
                    case hir8x5 => (simp; rfl)
                    case hsr8x5 => kernel_rfl
                    case hfr8x5 => kernel_rfl
                    case hrr8x5 => kernel_rfl
                    case hQr8x5 => exact fun _ _ _ h => h
                    case hwr8x5 => rfl
                    case hyr8x5 => (intro wq hSq; (try dsimp only at hSq); go_simp; (try with_reducible rfl))
                    case hSr8x5 => assumption
                    simp only [Act.put, List.setIfInBounds_toArray, List.set_cons_zero, List.set_cons_succ]
                    refine wpAnyH_ready (rs := [6]) (by kernel_rfl) (by simp) ?_
                    refine AllReadyH.cons (o := ?or8x6) ?hir8x6 (fun K hK => ?_) AllReadyH.nil
                    case hir8x6 => (simp; rfl)
                    go_simp
                    refine (refCmpV_any y.v v _).mono ?_
                    rintro e w4 ⟨rfl, hb9⟩
                    rw [hC1]
                    have HB4 : Hid (Below wg.heap.size wg w4) := Mm.hid (by rw [hb9]; exact ((Below.drew HB3.out).alloc ((Below.drew HB3.out)).size _).alloc (Nat.le_trans ((Below.drew HB3.out)).size (by simp)) _)
                    clear hb9
                    go_wp2_with fail
                    refine hK.out _ _ (HS2.out _ HB4.out) (fun hHr8x6 => ?_)
                    clear hK K
                    refine wpAnyH_take (i := 7) (oi := ?or8x7) (v := ?vr8x7) ?hir8x7 ?hsr8x7 ?hfr8x7 ?hrr8x7 ?hQr8x7 (Or.inl ⟨?hwr8x7, ?hyr8x7⟩) ?hSr8x7 ?restr8x7
                    case hir8x7 => (simp; rfl)
                    case hsr8x7 => kernel_rfl
                    case hfr8x7 => kernel_rfl
                    case hrr8x7 => kernel_rfl
                    case hQr8x7 => exact fun _ _ _ h => h
                    case hwr8x7 => rfl
                    case hyr8x7 => (intro wq hSq; (try dsimp only at hSq); go_simp; (try with_reducible rfl))
                    case hSr8x7 => assumption
                    simp only [Act.put, List.setIfInBounds_toArray, List.set_cons_zero, List.set_cons_succ]
                    refine wpAnyH_take (i := 8) (oi := ?or8x8) (v := ?vr8x8) ?hir8x8 ?hsr8x8 ?hfr8x8 ?hrr8x8 ?hQr8x8 (Or.inl ⟨?hwr8x8, ?hyr8x8⟩) ?hSr8x8 ?restr8x8
                    case hir8x8 => (simp; rfl)
                    case hsr8x8 => kernel_rfl
                    case hfr8x8 => kernel_rfl
                    case hrr8x8 => kernel_rfl
                    case hQr8x8 => exact fun _ _ _ h => h
                    case hwr8x8 => rfl
                    case hyr8x8 => (intro wq hSq; (try dsimp only at hSq); go_simp; (try with_reducible rfl))
                    case hSr8x8 => assumption
                    simp only [Act.put, List.setIfInBounds_toArray, List.set_cons_zero, List.set_cons_succ]
                    refine wpAnyH_take (i := 9) (oi := ?or8x9) (v := ?vr8x9) ?hir8x9 ?hsr8x9 ?hfr8x9 ?hrr8x9 ?hQr8x9 (Or.inl ⟨?hwr8x9, ?hyr8x9⟩) ?hSr8x9 ?restr8x9
                    case hir8x9 => (simp; rfl)
                    case hsr8x9 => kernel_rfl
                    case hfr8x9 => kernel_rfl
                    case hrr8x9 => kernel_rfl
                    case hQr8x9 => exact fun _ _ _ h => h
                    case hwr8x9 => rfl
                    case hyr8x9 => (intro wq hSq; (try dsimp only at hSq); go_simp; (try with_reducible rfl))
                    case hSr8x9 => assumption
                    simp only [Act.put, List.setIfInBounds_toArray, List.set_cons_zero, List.set_cons_succ]
                    refine wpAnyH_take (i := 10) (oi := ?or8x10) (v := ?vr8x10) ?hir8x10 ?hsr8x10 ?hfr8x10 ?hrr8x10 ?hQr8x10 (Or.inl ⟨?hwr8x10, ?hyr8x10⟩) ?hSr8x10 ?restr8x10
                    case hir8x10 => (simp; rfl)
                    case hsr8x10 => kernel_rfl
                    case hfr8x10 => kernel_rfl
                    case hrr8x10 => kernel_rfl
                    case hQr8x10 => exact fun _ _ _ h => h
                    case hwr8x10 => rfl
                    case hyr8x10 => (intro wq hSq; (try dsimp only at hSq); go_simp; (try with_reducible rfl))
                    case hSr8x10 => assumption
                    simp only [Act.put, List.setIfInBounds_toArray, List.set_cons_zero, List.set_cons_succ]
                    refine wpAnyH_take (i := 11) (oi := ?or8x11) (v := ?vr8x11) ?hir8x11 ?hsr8x11 ?hfr8x11 ?hrr8x11 ?hQr8x11 (Or.inl ⟨?hwr8x11, ?hyr8x11⟩) ?hSr8x11 ?restr8x11
                    case hir8x11 => (simp; rfl)
                    case hsr8x11 => kernel_rfl
                    case hfr8x11 => kernel_rfl
                    case hrr8x11 => kernel_rfl
                    case hQr8x11 => exact fun _ _ _ h => h
                    case hwr8x11 => rfl
                    case hyr8x11 => (intro wq hSq; (try dsimp only at hSq); go_simp; (try with_reducible rfl))
                    case hSr8x11 => assumption
                    simp only [Act.put, List.setIfInBounds_toArray, List.set_cons_zero, List.set_cons_succ]
                    refine wpAnyH_take (i := 12) (oi := ?or8x12) (v := ?vr8x12) ?hir8x12 ?hsr8x12 ?hfr8x12 ?hrr8x12 ?hQr8x12 (Or.inl ⟨?hwr8x12, ?hyr8x12⟩) ?hSr8x12 ?restr8x12
                    case hir8x12 => (simp; rfl)
                    case hsr8x12 => kernel_rfl
                    case hfr8x12 => kernel_rfl
                    case hrr8x12 => kernel_rfl
                    case hQr8x12 => exact fun _ _ _ h => h
                    case hwr8x12 => rfl
                    case hyr8x12 => (intro wq hSq; (try dsimp only at hSq); go_simp; (try with_reducible rfl))
                    case hSr8x12 => assumption
                    simp only [Act.put, List.setIfInBounds_toArray, List.set_cons_zero, List.set_cons_succ]
                    refine wpAnyH_take (i := 13) (oi := ?or8x13) (v := ?vr8x13) ?hir8x13 ?hsr8x13 ?hfr8x13 ?hrr8x13 ?hQr8x13 (Or.inl ⟨?hwr8x13, ?hyr8x13⟩) ?hSr8x13 ?restr8x13
                    case hir8x13 => (simp; rfl)
                    case hsr8x13 => kernel_rfl
                    case hfr8x13 => kernel_rfl
                    case hrr8x13 => kernel_rfl
                    case hQr8x13 => exact fun _ _ _ h => h
                    case hwr8x13 => rfl
                    case hyr8x13 => (intro wq hSq; (try dsimp only at hSq); go_simp; (try with_reducible rfl))
                    case hSr8x13 => assumption
                    simp only [Act.put, List.setIfInBounds_toArray, List.set_cons_zero, List.set_cons_succ]
                    refine wpAnyH_take (i := 14) (oi := ?or8x14) (v := ?vr8x14) ?hir8x14 ?hsr8x14 ?hfr8x14 ?hrr8x14 ?hQr8x14 (Or.inl ⟨?hwr8x14, ?hyr8x14⟩) ?hSr8x14 ?restr8x14
                    case hir8x14 => (simp; rfl)
                    case hsr8x14 => kernel_rfl
                    case hfr8x14 => kernel_rfl
                    case hrr8x14 => kernel_rfl
                    case hQr8x14 => exact fun _ _ _ h => h
                    case hwr8x14 => rfl
                    case hyr8x14 => (intro wq hSq; (try dsimp only at hSq); go_simp; (try with_reducible rfl))
                    case hSr8x14 => assumption
                    simp only [Act.put, List.setIfInBounds_toArray, List.set_cons_zero, List.set_cons_succ]
                    refine wpAnyH_ready (rs := [15]) (by kernel_rfl) (by simp) ?_
                    refine AllReadyH.cons (o := ?or8x15) ?hir8x15 (fun K hK => ?_) AllReadyH.nil
                    case hir8x15 => (simp; rfl)
                    go_simp
                    refine (refCmpV_any y.v x _).mono ?_
                    rintro e w4b ⟨rfl, hb9⟩
                    rw [hC2]
                    have HB4b : Hid (Below wg.heap.size wg w4b) := Mm.hid (by rw [hb9]; exact (HB4.out.alloc (HB4.out).size _).alloc (Nat.le_trans (HB4.out).size (by simp)) _)
                    clear hb9
                    go_wp2_with fail
                    refine hK.out _ _ (HS2.out _ HB4b.out) (fun hHr8x15 => ?_)
                    clear hK K
                    refine wpAnyH_take (i := 16) (oi := ?or8x16) (v := ?vr8x16) ?hir8x16 ?hsr8x16 ?hfr8x16 ?hrr8x16 ?hQr8x16 (Or.inl ⟨?hwr8x16, ?hyr8x16⟩) ?hSr8x16 ?restr8x16
                    case hir8x16 => (simp; rfl)
                    case hsr8x16 => kernel_rfl
                    case hfr8x16 => kernel_rfl
                    case hrr8x16 => kernel_rfl
                    case hQr8x16 => exact fun _ _ _ h => h
                    case hwr8x16 => rfl
                    case hyr8x16 => (intro wq hSq; (try dsimp only at hSq); go_simp; (try with_reducible rfl))
                    case hSr8x16 => assumption
                    simp only [Act.put, List.setIfInBounds_toArray, List.set_cons_zero, List.set_cons_succ]
                    refine wpAnyH_take (i := 17) (oi := ?or8x17) (v := ?vr8x17) ?hir8x17 ?hsr8x17 ?hfr8x17 ?hrr8x17 ?hQr8x17 (Or.inl ⟨?hwr8x17, ?hyr8x17⟩) ?hSr8x17 ?restr8x17
                    case hir8x17 => (simp; rfl)
                    case hsr8x17 => kernel_rfl
                    case hfr8x17 => kernel_rfl
                    case hrr8x17 => kernel_rfl
                    case hQr8x17 => exact fun _ _ _ h => h
                    case hwr8x17 => rfl
                    case hyr8x17 => (intro wq hSq; (try dsimp only at hSq); go_simp; (try with_reducible rfl))
                    case hSr8x17 => assumption
                    simp only [Act.put, List.setIfInBounds_toArray, List.set_cons_zero, List.set_cons_succ]
                    refine wpAnyH_done (by kernel_rfl) ?_ _
                    go_wp2_with fail
                    exact ⟨⟨j + 1, a + 1, b + 0, by omega, by go_num, by go_num, by go_num, by omega, by omega, Mm.hid ⟨by rw [HCT.out.1, HSAME.out, ← HAB.out.1], by rw [HCT.out.2, HBETW.out, ← HAB.out.2]⟩, HB4b⟩, by simp [RowKit.intOf]; omega⟩
                · have hb1 : (C1 == 0) = false := beq_eq_false_iff_ne.2 h1
                  by_cases h3 : C1 < 0
                  · have k1 : decide ((0 : Int) ≤ C1) = false := decide_eq_false (by omega)
                    have HCC : Hid (¬ C1 = 0 ∧ C1 < 0) := Mm.hid ⟨h1, h3⟩
                    have HSAME : Hid ((if Ix.sameF v (Ix.ofS y) then 1 else 0) = 0) := Mm.hid (by unfold Ix.sameF; rw [show (Ix.ofS y).1 = y.v from rfl, hC1]; first | (simp; done) | simp [HCC.out])
                    have HBETW : Hid ((if Ix.betwF v x (Ix.ofS y) then 1 else 0) = 0) := Mm.hid (by unfold Ix.betwF; rw [show (Ix.ofS y).1 = y.v from rfl, hC1, hC2]; first | (simp; done) | simp [HCC.out])
                    clear h1
                    go_upto_region 27 with fail
                    refine wp_region_held_drew (S := fun w' => w'.cell? ⟨g, j * 10 + 2, none⟩ = some (.int .i64 y.v.k) ∧ w'.cell? ⟨g, j * 10 + 3, none⟩ = some (.int .i64 y.v.n) ∧ w'.cell? ⟨g, j * 10 + 4, none⟩ = some (.float .f64 y.v.f) ∧ w'.cell? ⟨g, j * 10 + 5, none⟩ = some (.string y.v.s) ∧ w'.cell? ⟨gv, 0, none⟩ = some (.int .i64 v.k) ∧ w'.cell? ⟨gv, 1, none⟩ = some (.int .i64 v.n) ∧ w'.cell? ⟨gv, 2, none⟩ = some (.float .f64 v.f) ∧ w'.cell? ⟨gv, 3, none⟩ = some (.string v.s)) (by kernel_rfl) (HS1.out _ (Below.drew HBr.out)) (fun hH => ?_)
                    refine wpAnyH_take (i := 0) (oi := ?or9x0) (v := ?vr9x0) ?hir9x0 ?hsr9x0 ?hfr9x0 ?hrr9x0 ?hQr9x0 (Or.inl ⟨?hwr9x0, ?hyr9x0⟩) ?hSr9x0 ?restr9x0
                    case hir9x0 => (simp; rfl)
                    case hsr9x0 => kernel_rfl
                    case hfr9x0 => kernel_rfl
                    case hrr9x0 => kernel_rfl
                    case hQr9x0 => exact fun _ _ _ h => h
                    case hwr9x0 => rfl
                    case hyr9x0 => (intro wq hSq; (try dsimp only at hSq); go_simp; (try with_reducible rfl))
                    case hSr9x0 => assumption
                    simp only [Act.put, List.setIfInBounds_toArray, List.set_cons_zero, List.set_cons_succ]
                    refine wpAnyH_take (i := 1) (oi := ?or9x1) (v := ?vr9x1) ?hir9x1 ?hsr9x1 ?hfr9x1 ?hrr9x1 ?hQr9x1 (Or.inl ⟨?hwr9x1, ?hyr9x1⟩) ?hSr9x1 ?restr9x1
                    case hir9x1 => (simp; rfl)
                    case hsr9x1 => kernel_rfl
                    case hfr9x1 => kernel_rfl
                    case hrr9x1 => kernel_rfl
                    case hQr9x1 => exact fun _ _ _ h => h
                    case hwr9x1 => rfl
                    case hyr9x1 => (intro wq hSq; (try dsimp only at hSq); go_simp; (try with_reducible rfl))
                    case hSr9x1 => assumption
                    simp only [Act.put, List.setIfInBounds_toArray, List.set_cons_zero, List.set_cons_succ]
                    refine wpAnyH_take (i := 2) (oi := ?or9x2) (v := ?vr9x2) ?hir9x2 ?hsr9x2 ?hfr9x2 ?hrr9x2 ?hQr9x2 (Or.inl ⟨?hwr9x2, ?hyr9x2⟩) ?hSr9x2 ?restr9x2
                    case hir9x2 => (simp; rfl)
                    case hsr9x2 => kernel_rfl
                    case hfr9x2 => kernel_rfl
                    case hrr9x2 => kernel_rfl
                    case hQr9x2 => exact fun _ _ _ h => h
                    case hwr9x2 => rfl
                    case hyr9x2 => (intro wq hSq; (try dsimp only at hSq); go_simp; (try with_reducible rfl))
                    case hSr9x2 => assumption
                    simp only [Act.put, List.setIfInBounds_toArray, List.set_cons_zero, List.set_cons_succ]
                    refine wpAnyH_take (i := 3) (oi := ?or9x3) (v := ?vr9x3) ?hir9x3 ?hsr9x3 ?hfr9x3 ?hrr9x3 ?hQr9x3 (Or.inl ⟨?hwr9x3, ?hyr9x3⟩) ?hSr9x3 ?restr9x3
                    case hir9x3 => (simp; rfl)
                    case hsr9x3 => kernel_rfl
                    case hfr9x3 => kernel_rfl
                    case hrr9x3 => kernel_rfl
                    case hQr9x3 => exact fun _ _ _ h => h
                    case hwr9x3 => rfl
                    case hyr9x3 => (intro wq hSq; (try dsimp only at hSq); go_simp; (try with_reducible rfl))
                    case hSr9x3 => assumption
                    simp only [Act.put, List.setIfInBounds_toArray, List.set_cons_zero, List.set_cons_succ]
                    refine wpAnyH_take (i := 4) (oi := ?or9x4) (v := ?vr9x4) ?hir9x4 ?hsr9x4 ?hfr9x4 ?hrr9x4 ?hQr9x4 (Or.inl ⟨?hwr9x4, ?hyr9x4⟩) ?hSr9x4 ?restr9x4
                    case hir9x4 => (simp; rfl)
                    case hsr9x4 => kernel_rfl
                    case hfr9x4 => kernel_rfl
                    case hrr9x4 => kernel_rfl
                    case hQr9x4 => exact fun _ _ _ h => h
                    case hwr9x4 => rfl
                    case hyr9x4 => (intro wq hSq; (try dsimp only at hSq); go_simp; (try with_reducible rfl))
                    case hSr9x4 => assumption
                    simp only [Act.put, List.setIfInBounds_toArray, List.set_cons_zero, List.set_cons_succ]
                    refine wpAnyH_take (i := 5) (oi := ?or9x5) (v := ?vr9x5) ?hir9x5 ?hsr9x5 ?hfr9x5 ?hrr9x5 ?hQr9x5 (Or.inl ⟨?hwr9x5, ?hyr9x5⟩) ?hSr9x5 ?restr9x5
                    case hir9x5 => (simp; rfl)
                    case hsr9x5 => kernel_rfl
                    case hfr9x5 => kernel_rfl
                    case hrr9x5 => kernel_rfl
                    case hQr9x5 => exact fun _ _ _ h => h
                    case hwr9x5 => rfl
                    case hyr9x5 => (intro wq hSq; (try dsimp only at hSq); go_simp; (try with_reducible rfl))
                    case hSr9x5 => assumption
                    simp only [Act.put, List.setIfInBounds_toArray, List.set_cons_zero, List.set_cons_succ]
                    refine wpAnyH_ready (rs := [6]) (by kernel_rfl) (by simp) ?_
                    refine AllReadyH.cons (o := ?or9x6) ?hir9x6 (fun K hK => ?_) AllReadyH.nil
                    case hir9x6 => (simp; rfl)
                    go_simp
                    refine (refCmpV_any y.v v _).mono ?_
                    rintro e w3 ⟨rfl, hb9⟩
                    rw [hC1]
                    have HB3 : Hid (Below wg.heap.size wg w3) := Mm.hid (by rw [hb9]; exact ((Below.drew HBr.out).alloc ((Below.drew HBr.out)).size _).alloc (Nat.le_trans ((Below.drew HBr.out)).size (by simp)) _)
                    clear hb9
                    go_wp2_with fail
                    refine hK.out _ _ (HS1.out _ HB3.out) (fun hHr9x6 => ?_)
                    clear hK K
                    refine wpAnyH_take (i := 7) (oi := ?or9x7) (v := ?vr9x7) ?hir9x7 ?hsr9x7 ?hfr9x7 ?hrr9x7 ?hQr9x7 (Or.inl ⟨?hwr9x7, ?hyr9x7⟩) ?hSr9x7 ?restr9x7
                    case hir9x7 => (simp; rfl)
                    case hsr9x7 => kernel_rfl
                    case hfr9x7 => kernel_rfl
                    case hrr9x7 => kernel_rfl
                    case hQr9x7 => exact fun _ _ _ h => h
                    case hwr9x7 => rfl
                    case hyr9x7 => (intro wq hSq; (try dsimp only at hSq); go_simp; (try with_reducible rfl))
                    case hSr9x7 => assumption
                    simp only [Act.put, List.setIfInBounds_toArray, List.set_cons_zero, List.set_cons_succ]
                    refine wpAnyH_done (by kernel_rfl) ?_ _
                    go_upto_region 31 with fail
                    refine wp_region_held_drew (S := fun w' => w'.cell? ⟨g, j * 10 + 2, none⟩ = some (.int .i64 y.v.k) ∧ w'.cell? ⟨g, j * 10 + 3, none⟩ = some (.int .i64 y.v.n) ∧ w'.cell? ⟨g, j * 10 + 4, none⟩ = some (.float .f64 y.v.f) ∧ w'.cell? ⟨g, j * 10 + 5, none⟩ = some (.string y.v.s) ∧ w'.cell? ⟨gv, 0, none⟩ = some (.int .i64 v.k) ∧ w'.cell? ⟨gv, 1, none⟩ = some (.int .i64 v.n) ∧ w'.cell? ⟨gv, 2, none⟩ = some (.float .f64 v.f) ∧ w'.cell? ⟨gv, 3, none⟩ = some (.string v.s) ∧ w'.cell? ⟨gx, 0, none⟩ = some (.int .i64 x.k) ∧ w'.cell? ⟨gx, 1, none⟩ = some (.int .i64 x.n) ∧ w'.cell? ⟨gx, 2, none⟩ = some (.float .f64 x.f) ∧ w'.cell? ⟨gx, 3, none⟩ = some (.string x.s)) (by kernel_rfl) (HS2.out _ (Below.drew HB3.out)) (fun hH => ?_)
                    refine wpAnyH_take (i := 0) (oi := ?or10x0) (v := ?vr10x0) ?hir10x0 ?hsr10x0 ?hfr10x0 ?hrr10x0 ?hQr10x0 (Or.inl ⟨?hwr10x0, ?hyr10x0⟩) ?hSr10x0 ?restr10x0
                    case hir10x0 => (simp; rfl)
                    case hsr10x0 => kernel_rfl
                    case hfr10x0 => kernel_rfl
                    case hrr10x0 => kernel_rfl
                    case hQr10x0 => exact fun _ _ _ h => h
                    case hwr10x0 => rfl
                    case hyr10x0 => (intro wq hSq; (try dsimp only at hSq); go_simp; (try with_reducible rfl))
                    case hSr10x0 => assumption
                    simp only [Act.put, List.setIfInBounds_toArray, List.set_cons_zero, List.set_cons_succ]
                    refine wpAnyH_take (i := 1) (oi := ?or10x1) (v := ?vr10x1) ?hir10x1 ?hsr10x1 ?hfr10x1 ?hrr10x1 ?hQr10x1 (Or.inl ⟨?hwr10x1, ?hyr10x1⟩) ?hSr10x1 ?restr10x1
                    case hir10x1 => (simp; rfl)
                    case hsr10x1 => kernel_rfl
                    case hfr10x1 => kernel_rfl
                    case hrr10x1 => kernel_rfl
                    case hQr10x1 => exact fun _ _ _ h => h
                    case hwr10x1 => rfl
                    case hyr10x1 => (intro wq hSq; (try dsimp only at hSq); go_simp; (try with_reducible rfl))
                    case hSr10x1 => assumption
                    simp only [Act.put, List.setIfInBounds_toArray, List.set_cons_zero, List.set_cons_succ]
                    refine wpAnyH_take (i := 2) (oi := ?or10x2) (v := ?vr10x2) ?hir10x2 ?hsr10x2 ?hfr10x2 ?hrr10x2 ?hQr10x2 (Or.inl ⟨?hwr10x2, ?hyr10x2⟩) ?hSr10x2 ?restr10x2
                    case hir10x2 => (simp; rfl)
                    case hsr10x2 => kernel_rfl
                    case hfr10x2 => kernel_rfl
                    case hrr10x2 => kernel_rfl
                    case hQr10x2 => exact fun _ _ _ h => h
                    case hwr10x2 => rfl
                    case hyr10x2 => (intro wq hSq; (try dsimp only at hSq); go_simp; (try with_reducible rfl))
                    case hSr10x2 => assumption
                    simp only [Act.put, List.setIfInBounds_toArray, List.set_cons_zero, List.set_cons_succ]
                    refine wpAnyH_take (i := 3) (oi := ?or10x3) (v := ?vr10x3) ?hir10x3 ?hsr10x3 ?hfr10x3 ?hrr10x3 ?hQr10x3 (Or.inl ⟨?hwr10x3, ?hyr10x3⟩) ?hSr10x3 ?restr10x3
                    case hir10x3 => (simp; rfl)
                    case hsr10x3 => kernel_rfl
                    case hfr10x3 => kernel_rfl
                    case hrr10x3 => kernel_rfl
                    case hQr10x3 => exact fun _ _ _ h => h
                    case hwr10x3 => rfl
                    case hyr10x3 => (intro wq hSq; (try dsimp only at hSq); go_simp; (try with_reducible rfl))
                    case hSr10x3 => assumption
                    simp only [Act.put, List.setIfInBounds_toArray, List.set_cons_zero, List.set_cons_succ]
                    refine wpAnyH_take (i := 4) (oi := ?or10x4) (v := ?vr10x4) ?hir10x4 ?hsr10x4 ?hfr10x4 ?hrr10x4 ?hQr10x4 (Or.inl ⟨?hwr10x4, ?hyr10x4⟩) ?hSr10x4 ?restr10x4
                    case hir10x4 => (simp; rfl)
                    case hsr10x4 => kernel_rfl
                    case hfr10x4 => kernel_rfl
                    case hrr10x4 => kernel_rfl
                    case hQr10x4 => exact fun _ _ _ h => h
                    case hwr10x4 => rfl
                    case hyr10x4 => (intro wq hSq; (try dsimp only at hSq); go_simp; (try with_reducible rfl))
                    case hSr10x4 => assumption
                    simp only [Act.put, List.setIfInBounds_toArray, List.set_cons_zero, List.set_cons_succ]
                    refine wpAnyH_take (i := 5) (oi := ?or10x5) (v := ?vr10x5) ?hir10x5 ?hsr10x5 ?hfr10x5 ?hrr10x5 ?hQr10x5 (Or.inl ⟨?hwr10x5, ?hyr10x5⟩) ?hSr10x5 ?restr10x5
                    case hir10x5 => (simp; rfl)
                    case hsr10x5 => kernel_rfl
                    case hfr10x5 => kernel_rfl
                    case hrr10x5 => kernel_rfl
                    case hQr10x5 => exact fun _ _ _ h => h
                    case hwr10x5 => rfl
                    case hyr10x5 => (intro wq hSq; (try dsimp only at hSq); go_simp; (try with_reducible rfl))
                    case hSr10x5 => assumption
                    simp only [Act.put, List.setIfInBounds_toArray, List.set_cons_zero, List.set_cons_succ]
                    refine wpAnyH_ready (rs := [6]) (by kernel_rfl) (by simp) ?_
                    refine AllReadyH.cons (o := ?or10x6) ?hir10x6 (fun K hK => ?_) AllReadyH.nil
                    case hir10x6 => (simp; rfl)
                    go_simp
                    refine (refCmpV_any y.v v _).mono ?_
                    rintro e w4 ⟨rfl, hb9⟩
                    rw [hC1]
                    have HB4 : Hid (Below wg.heap.size wg w4) := Mm.hid (by rw [hb9]; exact ((Below.drew HB3.out).alloc ((Below.drew HB3.out)).size _).alloc (Nat.le_trans ((Below.drew HB3.out)).size (by simp)) _)
                    clear hb9
                    go_wp2_with fail
                    refine hK.out _ _ (HS2.out _ HB4.out) (fun hHr10x6 => ?_)
                    clear hK K
                    refine wpAnyH_take (i := 7) (oi := ?or10x7) (v := ?vr10x7) ?hir10x7 ?hsr10x7 ?hfr10x7 ?hrr10x7 ?hQr10x7 (Or.inl ⟨?hwr10x7, ?hyr10x7⟩) ?hSr10x7 ?restr10x7
                    case hir10x7 => (simp; rfl)
                    case hsr10x7 => kernel_rfl
                    case hfr10x7 => kernel_rfl
                    case hrr10x7 => kernel_rfl
                    case hQr10x7 => exact fun _ _ _ h => h
                    case hwr10x7 => rfl
                    case hyr10x7 => (intro wq hSq; (try dsimp only at hSq); go_simp; (try with_reducible rfl))
                    case hSr10x7 => assumption
                    simp only [Act.put, List.setIfInBounds_toArray, List.set_cons_zero, List.set_cons_succ]
                    refine wpAnyH_take (i := 8) (oi := ?or10x8) (v := ?vr10x8) ?hir10x8 ?hsr10x8 ?hfr10x8 ?hrr10x8 ?hQr10x8 (Or.inl ⟨?hwr10x8, ?hyr10x8⟩) ?hSr10x8 ?restr10x8
                    case hir10x8 => (simp; rfl)
                    case hsr10x8 => kernel_rfl
                    case hfr10x8 => kernel_rfl
                    case hrr10x8 => kernel_rfl
                    case hQr10x8 => exact fun _ _ _ h => h
                    case hwr10x8 => rfl
                    case hyr10x8 => (intro wq hSq; (try dsimp only at hSq); go_simp; (try with_reducible rfl))
                    case hSr10x8 => assumption
                    simp only [Act.put, List.setIfInBounds_toArray, List.set_cons_zero, List.set_cons_succ]
                    refine wpAnyH_take (i := 9) (oi := ?or10x9) (v := undef) ?hir10x9 ?hsr10x9 ?hfr10x9 ?hrr10x9 ?hQr10x9 (Or.inr ⟨?hwr10x9, rfl⟩) ?hSr10x9 ?restr10x9
                    case hir10x9 => (simp; rfl)
                    case hsr10x9 => kernel_rfl
                    case hfr10x9 => kernel_rfl
                    case hrr10x9 => kernel_rfl
                    case hQr10x9 => exact fun _ _ _ h => h
                    case hwr10x9 => rfl
                    case hSr10x9 => assumption
                    simp only [Act.put, List.setIfInBounds_toArray, List.set_cons_zero, List.set_cons_succ]
                    refine wpAnyH_take (i := 10) (oi := ?or10x10) (v := undef) ?hir10x10 ?hsr10x10 ?hfr10x10 ?hrr10x10 ?hQr10x10 (Or.inr ⟨?hwr10x10, rfl⟩) ?hSr10x10 ?restr10x10
                    case hir10x10 => (simp; rfl)
                    case hsr10x10 => kernel_rfl
                    case hfr10x10 => kernel_rfl
                    case hrr10x10 => kernel_rfl
                    case hQr10x10 => exact fun _ _ _ h => h
                    case hwr10x10 => rfl
                    case hSr10x10 => assumption
                    simp only [Act.put, List.setIfInBounds_toArray, List.set_cons_zero, List.set_cons_succ]
                    refine wpAnyH_take (i := 11) (oi := ?or10x11) (v := undef) ?hir10x11 ?hsr10x11 ?hfr10x11 ?hrr10x11 ?hQr10x11 (Or.inr ⟨?hwr10x11, rfl⟩) ?hSr10x11 ?restr10x11
                    case hir10x11 => (simp; rfl)
                    case hsr10x11 => kernel_rfl
                    case hfr10x11 => kernel_rfl
                    case hrr10x11 => kernel_rfl
                    case hQr10x11 => exact fun _ _ _ h => h
                    case hwr10x11 => rfl
                    case hSr10x11 => assumption
                    simp only [Act.put, List.setIfInBounds_toArray, List.set_cons_zero, List.set_cons_succ]
                    refine wpAnyH_take (i := 12) (oi := ?or10x12) (v := undef) ?hir10x12 ?hsr10x12 ?hfr10x12 ?hrr10x12 ?hQr10x12 (Or.inr ⟨?hwr10x12, rfl⟩) ?hSr10x12 ?restr10x12
                    case hir10x12 => (simp; rfl)
                    case hsr10x12 => kernel_rfl
                    case hfr10x12 => kernel_rfl
                    case hrr10x12 => kernel_rfl
                    case hQr10x12 => exact fun _ _ _ h => h
                    case hwr10x12 => rfl
                    case hSr10x12 => assumption
                    simp only [Act.put, List.setIfInBounds_toArray, List.set_cons_zero, List.set_cons_succ]
                    refine wpAnyH_take (i := 13) (oi := ?or10x13) (v := undef) ?hir10x13 ?hsr10x13 ?hfr10x13 ?hrr10x13 ?hQr10x13 (Or.inr ⟨?hwr10x13, rfl⟩) ?hSr10x13 ?restr10x13
                    case hir10x13 => (simp; rfl)
                    case hsr10x13 => kernel_rfl
                    case hfr10x13 => kernel_rfl
                    case hrr10x13 => kernel_rfl
                    case hQr10x13 => exact fun _ _ _ h => h
                    case hwr10x13 => rfl
                    case hSr10x13 => assumption
                    simp only [Act.put, List.setIfInBounds_toArray, List.set_cons_zero, List.set_cons_succ]
                    refine wpAnyH_take (i := 14) (oi := ?or10x14) (v := undef) ?hir10x14 ?hsr10x14 ?hfr10x14 ?hrr10x14 ?hQr10x14 (Or.inr ⟨?hwr10x14, rfl⟩) ?hSr10x14 ?restr10x14
                    case hir10x14 => (simp; rfl)
                    case hsr10x14 => kernel_rfl
                    case hfr10x14 => kernel_rfl
                    case hrr10x14 => kernel_rfl
                    case hQr10x14 => exact fun _ _ _ h => h
                    case hwr10x14 => rfl
                    case hSr10x14 => assumption
                    simp only [Act.put, List.setIfInBounds_toArray, List.set_cons_zero, List.set_cons_succ]
                    refine wpAnyH_take (i := 15) (oi := ?or10x15) (v := undef) ?hir10x15 ?hsr10x15 ?hfr10x15 ?hrr10x15 ?hQr10x15 (Or.inr ⟨?hwr10x15, rfl⟩) ?hSr10x15 ?restr10x15
                    case hir10x15 => (simp; rfl)
                    case hsr10x15 => kernel_rfl
                    case hfr10x15 => kernel_rfl
                    case hrr10x15 => kernel_rfl
                    case hQr10x15 => exact fun _ _ _ h => h
                    case hwr10x15 => rfl
                    case hSr10x15 => assumption
                    simp only [Act.put, List.setIfInBounds_toArray, List.set_cons_zero, List.set_cons_succ]
                    refine wpAnyH_take (i := 16) (oi := ?or10x16) (v := undef) ?hir10x16 ?hsr10x16 ?hfr10x16 ?hrr10x16 ?hQr10x16 (Or.inr ⟨?hwr10x16, rfl⟩) ?hSr10x16 ?restr10x16
                    case hir10x16 => (simp; rfl)
                    case hsr10x16 => kernel_rfl
                    case hfr10x16 => kernel_rfl
                    case hrr10x16 => kernel_rfl
                    case hQr10x16 => exact fun _ _ _ h => h
                    case hwr10x16 => rfl
                    case hSr10x16 => assumption
                    simp only [Act.put, List.setIfInBounds_toArray, List.set_cons_zero, List.set_cons_succ]
                    refine wpAnyH_take (i := 17) (oi := ?or10x17) (v := ?vr10x17) ?hir10x17 ?hsr10x17 ?hfr10x17 ?hrr10x17 ?hQr10x17 (Or.inl ⟨?hwr10x17, ?hyr10x17⟩) ?hSr10x17 ?restr10x17
                    case hir10x17 => (simp; rfl)
                    case hsr10x17 => kernel_rfl
                    case hfr10x17 => kernel_rfl
                    case hrr10x17 => kernel_rfl
                    case hQr10x17 => exact fun _ _ _ h => h
                    case hwr10x17 => rfl
                    case hyr10x17 => (intro wq hSq; (try dsimp only at hSq); go_simp; (try with_reducible rfl))
                    case hSr10x17 => assumption
                    simp only [Act.put, List.setIfInBounds_toArray, List.set_cons_zero, List.set_cons_succ]
                    refine wpAnyH_done (by kernel_rfl) ?_ _
                    go_wp2_with fail
                    exact ⟨⟨j + 1, a + 0, b + 0, by omega, by go_num, by go_num, by go_num, by omega, by omega, Mm.hid ⟨by rw [HCT.out.1, HSAME.out, ← HAB.out.1], by rw [HCT.out.2, HBETW.out, ← HAB.out.2]⟩, HB4⟩, by simp [RowKit.intOf]; omega⟩
                  · have k1 : decide ((0 : Int) ≤ C1) = true := decide_eq_true (by omega)
                    by_cases h2 : C2 < 0
                    · have HCC : Hid (¬ C1 = 0 ∧ ¬ C1 < 0 ∧ C2 < 0) := Mm.hid ⟨h1, h3, h2⟩
                      have HSAME : Hid ((if Ix.sameF v (Ix.ofS y) then 1 else 0) = 0) := Mm.hid (by unfold Ix.sameF; rw [show (Ix.ofS y).1 = y.v from rfl, hC1]; first | (simp; done) | simp [HCC.out])
                      have HBETW : Hid ((if Ix.betwF v x (Ix.ofS y) then 1 else 0) = 1) := Mm.hid (by unfold Ix.betwF; rw [show (Ix.ofS y).1 = y.v from rfl, hC1, hC2]; first | (simp; done) | simp [HCC.out])
                      have HMU : Hid (y.tid ∈ U) := Mm.hid (HAU.out.2 y (List.mem_of_getElem? HYI.out) (by unfold Ix.betwF; rw [show (Ix.ofS y).1 = y.v from rfl, hC1, hC2]; first | (simp; done) | simp [HCC.out]))
                      clear h1
                      go_upto_region 27 with fail
                      refine wp_region_held_drew (S := fun w' => w'.cell? ⟨g, j * 10 + 2, none⟩ = some (.int .i64 y.v.k) ∧ w'.cell? ⟨g, j * 10 + 3, none⟩ = some (.int .i64 y.v.n) ∧ w'.cell? ⟨g, j * 10 + 4, none⟩ = some (.float .f64 y.v.f) ∧ w'.cell? ⟨g, j * 10 + 5, none⟩ = some (.string y.v.s) ∧ w'.cell? ⟨gv, 0, none⟩ = some (.int .i64 v.k) ∧ w'.cell? ⟨gv, 1, none⟩ = some (.int .i64 v.n) ∧ w'.cell? ⟨gv, 2, none⟩ = some (.float .f64 v.f) ∧ w'.cell? ⟨gv, 3, none⟩ = some (.string v.s)) (by kernel_rfl) (HS1.out _ (Below.drew HBr.out)) (fun hH => ?_)
                      refine wpAnyH_take (i := 0) (oi := ?or11x0) (v := ?vr11x0) ?hir11x0 ?hsr11x0 ?hfr11x0 ?hrr11x0 ?hQr11x0 (Or.inl ⟨?hwr11x0, ?hyr11x0⟩) ?hSr11x0 ?restr11x0
                      case hir11x0 => (simp; rfl)
                      case hsr11x0 => kernel_rfl
                      case hfr11x0 => kernel_rfl
                      case hrr11x0 => kernel_rfl
                      case hQr11x0 => exact fun _ _ _ h => h
                      case hwr11x0 => rfl
                      case hyr11x0 => (intro wq hSq; (try dsimp only at hSq); go_simp; (try with_reducible rfl))
                      case hSr11x0 => assumption
                      simp only [Act.put, List.setIfInBounds_toArray, List.set_cons_zero, List.set_cons_succ]
                      refine wpAnyH_take (i := 1) (oi := ?or11x1) (v := ?vr11x1) ?hir11x1 ?hsr11x1 ?hfr11x1 ?hrr11x1 ?hQr11x1 (Or.inl ⟨?hwr11x1, ?hyr11x1⟩) ?hSr11x1 ?restr11x1
                      case hir11x1 => (simp; rfl)
                      case hsr11x1 => kernel_rfl
                      case hfr11x1 => kernel_rfl
                      case hrr11x1 => kernel_rfl
                      case hQr11x1 => exact fun _ _ _ h => h
                      case hwr11x1 => rfl
                      case hyr11x1 => (intro wq hSq; (try dsimp only at hSq); go_simp; (try with_reducible rfl))
                      case hSr11x1 => assumption
                      simp only [Act.put, List.setIfInBounds_toArray, List.set_cons_zero, List.set_cons_succ]
                      refine wpAnyH_take (i := 2) (oi := ?or11x2) (v := ?vr11x2) ?hir11x2 ?hsr11x2 ?hfr11x2 ?hrr11x2 ?hQr11x2 (Or.inl ⟨?hwr11x2, ?hyr11x2⟩) ?hSr11x2 ?restr11x2
                      case hir11x2 => (simp; rfl)
                      case hsr11x2 => kernel_rfl
                      case hfr11x2 => kernel_rfl
                      case hrr11x2 => kernel_rfl
                      case hQr11x2 => exact fun _ _ _ h => h
                      case hwr11x2 => rfl
                      case hyr11x2 => (intro wq hSq; (try dsimp only at hSq); go_simp; (try with_reducible rfl))
                      case hSr11x2 => assumption
                      simp only [Act.put, List.setIfInBounds_toArray, List.set_cons_zero, List.set_cons_succ]
                      refine wpAnyH_take (i := 3) (oi := ?or11x3) (v := ?vr11x3) ?hir11x3 ?hsr11x3 ?hfr11x3 ?hrr11x3 ?hQr11x3 (Or.inl ⟨?hwr11x3, ?hyr11x3⟩) ?hSr11x3 ?restr11x3
                      case hir11x3 => (simp; rfl)
                      case hsr11x3 => kernel_rfl
                      case hfr11x3 => kernel_rfl
                      case hrr11x3 => kernel_rfl
                      case hQr11x3 => exact fun _ _ _ h => h
                      case hwr11x3 => rfl
                      case hyr11x3 => (intro wq hSq; (try dsimp only at hSq); go_simp; (try with_reducible rfl))
                      case hSr11x3 => assumption
                      simp only [Act.put, List.setIfInBounds_toArray, List.set_cons_zero, List.set_cons_succ]
                      refine wpAnyH_take (i := 4) (oi := ?or11x4) (v := ?vr11x4) ?hir11x4 ?hsr11x4 ?hfr11x4 ?hrr11x4 ?hQr11x4 (Or.inl ⟨?hwr11x4, ?hyr11x4⟩) ?hSr11x4 ?restr11x4
                      case hir11x4 => (simp; rfl)
                      case hsr11x4 => kernel_rfl
                      case hfr11x4 => kernel_rfl
                      case hrr11x4 => kernel_rfl
                      case hQr11x4 => exact fun _ _ _ h => h
                      case hwr11x4 => rfl
                      case hyr11x4 => (intro wq hSq; (try dsimp only at hSq); go_simp; (try with_reducible rfl))
                      case hSr11x4 => assumption
                      simp only [Act.put, List.setIfInBounds_toArray, List.set_cons_zero, List.set_cons_succ]
                      refine wpAnyH_take (i := 5) (oi := ?or11x5) (v := ?vr11x5) ?hir11x5 ?hsr11x5 ?hfr11x5 ?hrr11x5 ?hQr11x5 (Or.inl ⟨?hwr11x5, ?hyr11x5⟩) ?hSr11x5 ?restr11x5
                      case hir11x5 => (simp; rfl)
                      case hsr11x5 => kernel_rfl
                      case hfr11x5 => kernel_rfl
                      case hrr11x5 => kernel_rfl
                      case hQr11x5 => exact fun _ _ _ h => h
                      case hwr11x5 => rfl
                      case hyr11x5 => (intro wq hSq; (try dsimp only at hSq); go_simp; (try with_reducible rfl))
                      case hSr11x5 => assumption
                      simp only [Act.put, List.setIfInBounds_toArray, List.set_cons_zero, List.set_cons_succ]
                      refine wpAnyH_ready (rs := [6]) (by kernel_rfl) (by simp) ?_
                      refine AllReadyH.cons (o := ?or11x6) ?hir11x6 (fun K hK => ?_) AllReadyH.nil
                      case hir11x6 => (simp; rfl)
                      go_simp
                      refine (refCmpV_any y.v v _).mono ?_
                      rintro e w3 ⟨rfl, hb9⟩
                      rw [hC1]
                      have HB3 : Hid (Below wg.heap.size wg w3) := Mm.hid (by rw [hb9]; exact ((Below.drew HBr.out).alloc ((Below.drew HBr.out)).size _).alloc (Nat.le_trans ((Below.drew HBr.out)).size (by simp)) _)
                      clear hb9
                      go_wp2_with fail
                      refine hK.out _ _ (HS1.out _ HB3.out) (fun hHr11x6 => ?_)
                      clear hK K
                      refine wpAnyH_take (i := 7) (oi := ?or11x7) (v := ?vr11x7) ?hir11x7 ?hsr11x7 ?hfr11x7 ?hrr11x7 ?hQr11x7 (Or.inl ⟨?hwr11x7, ?hyr11x7⟩) ?hSr11x7 ?restr11x7
                      case hir11x7 => (simp; rfl)
                      case hsr11x7 => kernel_rfl
                      case hfr11x7 => kernel_rfl
                      case hrr11x7 => kernel_rfl
                      case hQr11x7 => exact fun _ _ _ h => h
                      case hwr11x7 => rfl
                      case hyr11x7 => (intro wq hSq; (try dsimp only at hSq); go_simp; (try with_reducible rfl))
                      case hSr11x7 => assumption
                      simp only [Act.put, List.setIfInBounds_toArray, List.set_cons_zero, List.set_cons_succ]
                      refine wpAnyH_done (by kernel_rfl) ?_ _
                      go_upto_region 31 with fail
                      refine wp_region_held_drew (S := fun w' => w'.cell? ⟨g, j * 10 + 2, none⟩ = some (.int .i64 y.v.k) ∧ w'.cell? ⟨g, j * 10 + 3, none⟩ = some (.int .i64 y.v.n) ∧ w'.cell? ⟨g, j * 10 + 4, none⟩ = some (.float .f64 y.v.f) ∧ w'.cell? ⟨g, j * 10 + 5, none⟩ = some (.string y.v.s) ∧ w'.cell? ⟨gv, 0, none⟩ = some (.int .i64 v.k) ∧ w'.cell? ⟨gv, 1, none⟩ = some (.int .i64 v.n) ∧ w'.cell? ⟨gv, 2, none⟩ = some (.float .f64 v.f) ∧ w'.cell? ⟨gv, 3, none⟩ = some (.string v.s) ∧ w'.cell? ⟨gx, 0, none⟩ = some (.int .i64 x.k) ∧ w'.cell? ⟨gx, 1, none⟩ = some (.int .i64 x.n) ∧ w'.cell? ⟨gx, 2, none⟩ = some (.float .f64 x.f) ∧ w'.cell? ⟨gx, 3, none⟩ = some (.string x.s)) (by kernel_rfl) (HS2.out _ (Below.drew HB3.out)) (fun hH => ?_)
                      refine wpAnyH_take (i := 0) (oi := ?or12x0) (v := ?vr12x0) ?hir12x0 ?hsr12x0 ?hfr12x0 ?hrr12x0 ?hQr12x0 (Or.inl ⟨?hwr12x0, ?hyr12x0⟩) ?hSr12x0 ?restr12x0
                      case hir12x0 => (simp; rfl)
                      case hsr12x0 => kernel_rfl
                      case hfr12x0 => kernel_rfl
                      case hrr12x0 => kernel_rfl
                      case hQr12x0 => exact fun _ _ _ h => h
                      case hwr12x0 => rfl
                      case hyr12x0 => (intro wq hSq; (try dsimp only at hSq); go_simp; (try with_reducible rfl))
                      case hSr12x0 => assumption
                      simp only [Act.put, List.setIfInBounds_toArray, List.set_cons_zero, List.set_cons_succ]
                      refine wpAnyH_take (i := 1) (oi := ?or12x1) (v := ?vr12x1) ?hir12x1 ?hsr12x1 ?hfr12x1 ?hrr12x1 ?hQr12x1 (Or.inl ⟨?hwr12x1, ?hyr12x1⟩) ?hSr12x1 ?restr12x1
                      case hir12x1 => (simp; rfl)
                      case hsr12x1 => kernel_rfl
                      case hfr12x1 => kernel_rfl
                      case hrr12x1 => kernel_rfl
                      case hQr12x1 => exact fun _ _ _ h => h
                      case hwr12x1 => rfl
                      case hyr12x1 => (intro wq hSq; (try dsimp only at hSq); go_simp; (try with_reducible rfl))
                      case hSr12x1 => assumption
                      simp only [Act.put, List.setIfInBounds_toArray, List.set_cons_zero, List.set_cons_succ]
                      refine wpAnyH_take (i := 2) (oi := ?or12x2) (v := ?vr12x2) ?hir12x2 ?hsr12x2 ?hfr12x2 ?hrr12x2 ?hQr12x2 (Or.inl ⟨?hwr12x2, ?hyr12x2⟩) ?hSr12x2 ?restr12x2
                      case hir12x2 => (simp; rfl)
                      case hsr12x2 => kernel_rfl
                      case hfr12x2 => kernel_rfl
                      case hrr12x2 => kernel_rfl
                      case hQr12x2 => exact fun _ _ _ h => h
                      case hwr12x2 => rfl
                      case hyr12x2 => (intro wq hSq; (try dsimp only at hSq); go_simp; (try with_reducible rfl))
                      case hSr12x2 => assumption
                      simp only [Act.put, List.setIfInBounds_toArray, List.set_cons_zero, List.set_cons_succ]
                      refine wpAnyH_take (i := 3) (oi := ?or12x3) (v := ?vr12x3) ?hir12x3 ?hsr12x3 ?hfr12x3 ?hrr12x3 ?hQr12x3 (Or.inl ⟨?hwr12x3, ?hyr12x3⟩) ?hSr12x3 ?restr12x3
                      case hir12x3 => (simp; rfl)
                      case hsr12x3 => kernel_rfl
                      case hfr12x3 => kernel_rfl
                      case hrr12x3 => kernel_rfl
                      case hQr12x3 => exact fun _ _ _ h => h
                      case hwr12x3 => rfl
                      case hyr12x3 => (intro wq hSq; (try dsimp only at hSq); go_simp; (try with_reducible rfl))
                      case hSr12x3 => assumption
                      simp only [Act.put, List.setIfInBounds_toArray, List.set_cons_zero, List.set_cons_succ]
                      refine wpAnyH_take (i := 4) (oi := ?or12x4) (v := ?vr12x4) ?hir12x4 ?hsr12x4 ?hfr12x4 ?hrr12x4 ?hQr12x4 (Or.inl ⟨?hwr12x4, ?hyr12x4⟩) ?hSr12x4 ?restr12x4
                      case hir12x4 => (simp; rfl)
                      case hsr12x4 => kernel_rfl
                      case hfr12x4 => kernel_rfl
                      case hrr12x4 => kernel_rfl
                      case hQr12x4 => exact fun _ _ _ h => h
                      case hwr12x4 => rfl
                      case hyr12x4 => (intro wq hSq; (try dsimp only at hSq); go_simp; (try with_reducible rfl))
                      case hSr12x4 => assumption
                      simp only [Act.put, List.setIfInBounds_toArray, List.set_cons_zero, List.set_cons_succ]
                      refine wpAnyH_take (i := 5) (oi := ?or12x5) (v := ?vr12x5) ?hir12x5 ?hsr12x5 ?hfr12x5 ?hrr12x5 ?hQr12x5 (Or.inl ⟨?hwr12x5, ?hyr12x5⟩) ?hSr12x5 ?restr12x5
                      case hir12x5 => (simp; rfl)
                      case hsr12x5 => kernel_rfl
                      case hfr12x5 => kernel_rfl
                      case hrr12x5 => kernel_rfl
                      case hQr12x5 => exact fun _ _ _ h => h
                      case hwr12x5 => rfl
                      case hyr12x5 => (intro wq hSq; (try dsimp only at hSq); go_simp; (try with_reducible rfl))
                      case hSr12x5 => assumption
                      simp only [Act.put, List.setIfInBounds_toArray, List.set_cons_zero, List.set_cons_succ]
                      refine wpAnyH_ready (rs := [6]) (by kernel_rfl) (by simp) ?_
                      refine AllReadyH.cons (o := ?or12x6) ?hir12x6 (fun K hK => ?_) AllReadyH.nil
                      case hir12x6 => (simp; rfl)
                      go_simp
                      refine (refCmpV_any y.v v _).mono ?_
                      rintro e w4 ⟨rfl, hb9⟩
                      rw [hC1]
                      have HB4 : Hid (Below wg.heap.size wg w4) := Mm.hid (by rw [hb9]; exact ((Below.drew HB3.out).alloc ((Below.drew HB3.out)).size _).alloc (Nat.le_trans ((Below.drew HB3.out)).size (by simp)) _)
                      clear hb9
                      go_wp2_with fail
                      refine hK.out _ _ (HS2.out _ HB4.out) (fun hHr12x6 => ?_)
                      clear hK K
                      refine wpAnyH_take (i := 7) (oi := ?or12x7) (v := ?vr12x7) ?hir12x7 ?hsr12x7 ?hfr12x7 ?hrr12x7 ?hQr12x7 (Or.inl ⟨?hwr12x7, ?hyr12x7⟩) ?hSr12x7 ?restr12x7
                      case hir12x7 => (simp; rfl)
                      case hsr12x7 => kernel_rfl
                      case hfr12x7 => kernel_rfl
                      case hrr12x7 => kernel_rfl
                      case hQr12x7 => exact fun _ _ _ h => h
                      case hwr12x7 => rfl
                      case hyr12x7 => (intro wq hSq; (try dsimp only at hSq); go_simp; (try with_reducible rfl))
                      case hSr12x7 => assumption
                      simp only [Act.put, List.setIfInBounds_toArray, List.set_cons_zero, List.set_cons_succ]
                      refine wpAnyH_take (i := 8) (oi := ?or12x8) (v := ?vr12x8) ?hir12x8 ?hsr12x8 ?hfr12x8 ?hrr12x8 ?hQr12x8 (Or.inl ⟨?hwr12x8, ?hyr12x8⟩) ?hSr12x8 ?restr12x8
                      case hir12x8 => (simp; rfl)
                      case hsr12x8 => kernel_rfl
                      case hfr12x8 => kernel_rfl
                      case hrr12x8 => kernel_rfl
                      case hQr12x8 => exact fun _ _ _ h => h
                      case hwr12x8 => rfl
                      case hyr12x8 => (intro wq hSq; (try dsimp only at hSq); go_simp; (try with_reducible rfl))
                      case hSr12x8 => assumption
                      simp only [Act.put, List.setIfInBounds_toArray, List.set_cons_zero, List.set_cons_succ]
                      refine wpAnyH_take (i := 9) (oi := ?or12x9) (v := ?vr12x9) ?hir12x9 ?hsr12x9 ?hfr12x9 ?hrr12x9 ?hQr12x9 (Or.inl ⟨?hwr12x9, ?hyr12x9⟩) ?hSr12x9 ?restr12x9
                      case hir12x9 => (simp; rfl)
                      case hsr12x9 => kernel_rfl
                      case hfr12x9 => kernel_rfl
                      case hrr12x9 => kernel_rfl
                      case hQr12x9 => exact fun _ _ _ h => h
                      case hwr12x9 => rfl
                      case hyr12x9 => (intro wq hSq; (try dsimp only at hSq); go_simp; (try with_reducible rfl))
                      case hSr12x9 => assumption
                      simp only [Act.put, List.setIfInBounds_toArray, List.set_cons_zero, List.set_cons_succ]
                      refine wpAnyH_take (i := 10) (oi := ?or12x10) (v := ?vr12x10) ?hir12x10 ?hsr12x10 ?hfr12x10 ?hrr12x10 ?hQr12x10 (Or.inl ⟨?hwr12x10, ?hyr12x10⟩) ?hSr12x10 ?restr12x10
                      case hir12x10 => (simp; rfl)
                      case hsr12x10 => kernel_rfl
                      case hfr12x10 => kernel_rfl
                      case hrr12x10 => kernel_rfl
                      case hQr12x10 => exact fun _ _ _ h => h
                      case hwr12x10 => rfl
                      case hyr12x10 => (intro wq hSq; (try dsimp only at hSq); go_simp; (try with_reducible rfl))
                      case hSr12x10 => assumption
                      simp only [Act.put, List.setIfInBounds_toArray, List.set_cons_zero, List.set_cons_succ]
                      refine wpAnyH_take (i := 11) (oi := ?or12x11) (v := ?vr12x11) ?hir12x11 ?hsr12x11 ?hfr12x11 ?hrr12x11 ?hQr12x11 (Or.inl ⟨?hwr12x11, ?hyr12x11⟩) ?hSr12x11 ?restr12x11
                      case hir12x11 => (simp; rfl)
                      case hsr12x11 => kernel_rfl
                      case hfr12x11 => kernel_rfl
                      case hrr12x11 => kernel_rfl
                      case hQr12x11 => exact fun _ _ _ h => h
                      case hwr12x11 => rfl
                      case hyr12x11 => (intro wq hSq; (try dsimp only at hSq); go_simp; (try with_reducible rfl))
                      case hSr12x11 => assumption
                      simp only [Act.put, List.setIfInBounds_toArray, List.set_cons_zero, List.set_cons_succ]
                      refine wpAnyH_take (i := 12) (oi := ?or12x12) (v := ?vr12x12) ?hir12x12 ?hsr12x12 ?hfr12x12 ?hrr12x12 ?hQr12x12 (Or.inl ⟨?hwr12x12, ?hyr12x12⟩) ?hSr12x12 ?restr12x12
                      case hir12x12 => (simp; rfl)
                      case hsr12x12 => kernel_rfl
                      case hfr12x12 => kernel_rfl
                      case hrr12x12 => kernel_rfl
                      case hQr12x12 => exact fun _ _ _ h => h
                      case hwr12x12 => rfl
                      case hyr12x12 => (intro wq hSq; (try dsimp only at hSq); go_simp; (try with_reducible rfl))
                      case hSr12x12 => assumption
                      simp only [Act.put, List.setIfInBounds_toArray, List.set_cons_zero, List.set_cons_succ]
                      refine wpAnyH_take (i := 13) (oi := ?or12x13) (v := ?vr12x13) ?hir12x13 ?hsr12x13 ?hfr12x13 ?hrr12x13 ?hQr12x13 (Or.inl ⟨?hwr12x13, ?hyr12x13⟩) ?hSr12x13 ?restr12x13
                      case hir12x13 => (simp; rfl)
                      case hsr12x13 => kernel_rfl
                      case hfr12x13 => kernel_rfl
                      case hrr12x13 => kernel_rfl
                      case hQr12x13 => exact fun _ _ _ h => h
                      case hwr12x13 => rfl
                      case hyr12x13 => (intro wq hSq; (try dsimp only at hSq); go_simp; (try with_reducible rfl))
                      case hSr12x13 => assumption
                      simp only [Act.put, List.setIfInBounds_toArray, List.set_cons_zero, List.set_cons_succ]
                      refine wpAnyH_take (i := 14) (oi := ?or12x14) (v := ?vr12x14) ?hir12x14 ?hsr12x14 ?hfr12x14 ?hrr12x14 ?hQr12x14 (Or.inl ⟨?hwr12x14, ?hyr12x14⟩) ?hSr12x14 ?restr12x14
                      case hir12x14 => (simp; rfl)
                      case hsr12x14 => kernel_rfl
                      case hfr12x14 => kernel_rfl
                      case hrr12x14 => kernel_rfl
                      case hQr12x14 => exact fun _ _ _ h => h
                      case hwr12x14 => rfl
                      case hyr12x14 => (intro wq hSq; (try dsimp only at hSq); go_simp; (try with_reducible rfl))
                      case hSr12x14 => assumption
                      simp only [Act.put, List.setIfInBounds_toArray, List.set_cons_zero, List.set_cons_succ]
                      refine wpAnyH_ready (rs := [15]) (by kernel_rfl) (by simp) ?_
                      refine AllReadyH.cons (o := ?or12x15) ?hir12x15 (fun K hK => ?_) AllReadyH.nil
                      case hir12x15 => (simp; rfl)
                      go_simp
                      refine (refCmpV_any y.v x _).mono ?_
                      rintro e w4b ⟨rfl, hb9⟩
                      rw [hC2]
                      have HB4b : Hid (Below wg.heap.size wg w4b) := Mm.hid (by rw [hb9]; exact (HB4.out.alloc (HB4.out).size _).alloc (Nat.le_trans (HB4.out).size (by simp)) _)
                      clear hb9
                      go_wp2_with fail
                      refine hK.out _ _ (HS2.out _ HB4b.out) (fun hHr12x15 => ?_)
                      clear hK K
                      refine wpAnyH_take (i := 16) (oi := ?or12x16) (v := ?vr12x16) ?hir12x16 ?hsr12x16 ?hfr12x16 ?hrr12x16 ?hQr12x16 (Or.inl ⟨?hwr12x16, ?hyr12x16⟩) ?hSr12x16 ?restr12x16
                      case hir12x16 => (simp; rfl)
                      case hsr12x16 => kernel_rfl
                      case hfr12x16 => kernel_rfl
                      case hrr12x16 => kernel_rfl
                      case hQr12x16 => exact fun _ _ _ h => h
                      case hwr12x16 => rfl
                      case hyr12x16 => (intro wq hSq; (try dsimp only at hSq); go_simp; (try with_reducible rfl))
                      case hSr12x16 => assumption
                      simp only [Act.put, List.setIfInBounds_toArray, List.set_cons_zero, List.set_cons_succ]
                      refine wpAnyH_take (i := 17) (oi := ?or12x17) (v := ?vr12x17) ?hir12x17 ?hsr12x17 ?hfr12x17 ?hrr12x17 ?hQr12x17 (Or.inl ⟨?hwr12x17, ?hyr12x17⟩) ?hSr12x17 ?restr12x17
                      case hir12x17 => (simp; rfl)
                      case hsr12x17 => kernel_rfl
                      case hfr12x17 => kernel_rfl
                      case hrr12x17 => kernel_rfl
                      case hQr12x17 => exact fun _ _ _ h => h
                      case hwr12x17 => rfl
                      case hyr12x17 => (intro wq hSq; (try dsimp only at hSq); go_simp; (try with_reducible rfl))
                      case hSr12x17 => assumption
                      simp only [Act.put, List.setIfInBounds_toArray, List.set_cons_zero, List.set_cons_succ]
                      refine wpAnyH_done (by kernel_rfl) ?_ _
                      go_upto_region 33 with fail
                      have e1 := HTY.out _ HB4b.out
                      have HHS := Mm.hid (hask_any U q2 nU c2' y.tid _ (Mm.hid (HIU.out.below HB4b.out)) HNU HN4U.out)
                      rw [decide_eq_true HMU.out] at HHS
                      go_wp2_with fail
                      refine HHS.out.mono ?_
                      rintro e w4h ⟨rfl, hq9⟩
                      obtain rfl := hq9.symm
                      clear hq9 e1 HHS
                      go_wp2_with fail
                      exact ⟨⟨j + 1, a + 0, b + 1, by omega, by go_num, by go_num, by go_num, by omega, by omega, Mm.hid ⟨by rw [HCT.out.1, HSAME.out, ← HAB.out.1], by rw [HCT.out.2, HBETW.out, ← HAB.out.2]⟩, HB4b⟩, by simp [RowKit.intOf]; omega⟩
                    · have HCC : Hid (¬ C1 = 0 ∧ ¬ C1 < 0 ∧ ¬ C2 < 0) := Mm.hid ⟨h1, h3, h2⟩
                      have HSAME : Hid ((if Ix.sameF v (Ix.ofS y) then 1 else 0) = 0) := Mm.hid (by unfold Ix.sameF; rw [show (Ix.ofS y).1 = y.v from rfl, hC1]; first | (simp; done) | simp [HCC.out])
                      have HBETW : Hid ((if Ix.betwF v x (Ix.ofS y) then 1 else 0) = 0) := Mm.hid (by unfold Ix.betwF; rw [show (Ix.ofS y).1 = y.v from rfl, hC1, hC2]; first | (simp; done) | simp [HCC.out])
                      clear h1
                      go_upto_region 27 with fail
                      refine wp_region_held_drew (S := fun w' => w'.cell? ⟨g, j * 10 + 2, none⟩ = some (.int .i64 y.v.k) ∧ w'.cell? ⟨g, j * 10 + 3, none⟩ = some (.int .i64 y.v.n) ∧ w'.cell? ⟨g, j * 10 + 4, none⟩ = some (.float .f64 y.v.f) ∧ w'.cell? ⟨g, j * 10 + 5, none⟩ = some (.string y.v.s) ∧ w'.cell? ⟨gv, 0, none⟩ = some (.int .i64 v.k) ∧ w'.cell? ⟨gv, 1, none⟩ = some (.int .i64 v.n) ∧ w'.cell? ⟨gv, 2, none⟩ = some (.float .f64 v.f) ∧ w'.cell? ⟨gv, 3, none⟩ = some (.string v.s)) (by kernel_rfl) (HS1.out _ (Below.drew HBr.out)) (fun hH => ?_)
                      refine wpAnyH_take (i := 0) (oi := ?or13x0) (v := ?vr13x0) ?hir13x0 ?hsr13x0 ?hfr13x0 ?hrr13x0 ?hQr13x0 (Or.inl ⟨?hwr13x0, ?hyr13x0⟩) ?hSr13x0 ?restr13x0
                      case hir13x0 => (simp; rfl)
                      case hsr13x0 => kernel_rfl
                      case hfr13x0 => kernel_rfl
                      case hrr13x0 => kernel_rfl
                      case hQr13x0 => exact fun _ _ _ h => h
                      case hwr13x0 => rfl
                      case hyr13x0 => (intro wq hSq; (try dsimp only at hSq); go_simp; (try with_reducible rfl))
                      case hSr13x0 => assumption
                      simp only [Act.put, List.setIfInBounds_toArray, List.set_cons_zero, List.set_cons_succ]
                      refine wpAnyH_take (i := 1) (oi := ?or13x1) (v := ?vr13x1) ?hir13x1 ?hsr13x1 ?hfr13x1 ?hrr13x1 ?hQr13x1 (Or.inl ⟨?hwr13x1, ?hyr13x1⟩) ?hSr13x1 ?restr13x1
                      case hir13x1 => (simp; rfl)
                      case hsr13x1 => kernel_rfl
                      case hfr13x1 => kernel_rfl
                      case hrr13x1 => kernel_rfl
                      case hQr13x1 => exact fun _ _ _ h => h
                      case hwr13x1 => rfl
                      case hyr13x1 => (intro wq hSq; (try dsimp only at hSq); go_simp; (try with_reducible rfl))
                      case hSr13x1 => assumption
                      simp only [Act.put, List.setIfInBounds_toArray, List.set_cons_zero, List.set_cons_succ]
                      refine wpAnyH_take (i := 2) (oi := ?or13x2) (v := ?vr13x2) ?hir13x2 ?hsr13x2 ?hfr13x2 ?hrr13x2 ?hQr13x2 (Or.inl ⟨?hwr13x2, ?hyr13x2⟩) ?hSr13x2 ?restr13x2
                      case hir13x2 => (simp; rfl)
                      case hsr13x2 => kernel_rfl
                      case hfr13x2 => kernel_rfl
                      case hrr13x2 => kernel_rfl
                      case hQr13x2 => exact fun _ _ _ h => h
                      case hwr13x2 => rfl
                      case hyr13x2 => (intro wq hSq; (try dsimp only at hSq); go_simp; (try with_reducible rfl))
                      case hSr13x2 => assumption
                      simp only [Act.put, List.setIfInBounds_toArray, List.set_cons_zero, List.set_cons_succ]
                      refine wpAnyH_take (i := 3) (oi := ?or13x3) (v := ?vr13x3) ?hir13x3 ?hsr13x3 ?hfr13x3 ?hrr13x3 ?hQr13x3 (Or.inl ⟨?hwr13x3, ?hyr13x3⟩) ?hSr13x3 ?restr13x3
                      case hir13x3 => (simp; rfl)
                      case hsr13x3 => kernel_rfl
                      case hfr13x3 => kernel_rfl
                      case hrr13x3 => kernel_rfl
                      case hQr13x3 => exact fun _ _ _ h => h
                      case hwr13x3 => rfl
                      case hyr13x3 => (intro wq hSq; (try dsimp only at hSq); go_simp; (try with_reducible rfl))
                      case hSr13x3 => assumption
                      simp only [Act.put, List.setIfInBounds_toArray, List.set_cons_zero, List.set_cons_succ]
                      refine wpAnyH_take (i := 4) (oi := ?or13x4) (v := ?vr13x4) ?hir13x4 ?hsr13x4 ?hfr13x4 ?hrr13x4 ?hQr13x4 (Or.inl ⟨?hwr13x4, ?hyr13x4⟩) ?hSr13x4 ?restr13x4
                      case hir13x4 => (simp; rfl)
                      case hsr13x4 => kernel_rfl
                      case hfr13x4 => kernel_rfl
                      case hrr13x4 => kernel_rfl
                      case hQr13x4 => exact fun _ _ _ h => h
                      case hwr13x4 => rfl
                      case hyr13x4 => (intro wq hSq; (try dsimp only at hSq); go_simp; (try with_reducible rfl))
                      case hSr13x4 => assumption
                      simp only [Act.put, List.setIfInBounds_toArray, List.set_cons_zero, List.set_cons_succ]
                      refine wpAnyH_take (i := 5) (oi := ?or13x5) (v := ?vr13x5) ?hir13x5 ?hsr13x5 ?hfr13x5 ?hrr13x5 ?hQr13x5 (Or.inl ⟨?hwr13x5, ?hyr13x5⟩) ?hSr13x5 ?restr13x5
                      case hir13x5 => (simp; rfl)
                      case hsr13x5 => kernel_rfl
                      case hfr13x5 => kernel_rfl
                      case hrr13x5 => kernel_rfl
                      case hQr13x5 => exact fun _ _ _ h => h
                      case hwr13x5 => rfl
                      case hyr13x5 => (intro wq hSq; (try dsimp only at hSq); go_simp; (try with_reducible rfl))
                      case hSr13x5 => assumption
                      simp only [Act.put, List.setIfInBounds_toArray, List.set_cons_zero, List.set_cons_succ]
                      refine wpAnyH_ready (rs := [6]) (by kernel_rfl) (by simp) ?_
                      refine AllReadyH.cons (o := ?or13x6) ?hir13x6 (fun K hK => ?_) AllReadyH.nil
                      case hir13x6 => (simp; rfl)
                      go_simp
                      refine (refCmpV_any y.v v _).mono ?_
                      rintro e w3 ⟨rfl, hb9⟩
                      rw [hC1]
                      have HB3 : Hid (Below wg.heap.size wg w3) := Mm.hid (by rw [hb9]; exact ((Below.drew HBr.out).alloc ((Below.drew HBr.out)).size _).alloc (Nat.le_trans ((Below.drew HBr.out)).size (by simp)) _)
                      clear hb9
                      go_wp2_with fail
                      refine hK.out _ _ (HS1.out _ HB3.out) (fun hHr13x6 => ?_)
                      clear hK K
                      refine wpAnyH_take (i := 7) (oi := ?or13x7) (v := ?vr13x7) ?hir13x7 ?hsr13x7 ?hfr13x7 ?hrr13x7 ?hQr13x7 (Or.inl ⟨?hwr13x7, ?hyr13x7⟩) ?hSr13x7 ?restr13x7
                      case hir13x7 => (simp; rfl)
                      case hsr13x7 => kernel_rfl
                      case hfr13x7 => kernel_rfl
                      case hrr13x7 => kernel_rfl
                      case hQr13x7 => exact fun _ _ _ h => h
                      case hwr13x7 => rfl
                      case hyr13x7 => (intro wq hSq; (try dsimp only at hSq); go_simp; (try with_reducible rfl))
                      case hSr13x7 => assumption
                      simp only [Act.put, List.setIfInBounds_toArray, List.set_cons_zero, List.set_cons_succ]
                      refine wpAnyH_done (by kernel_rfl) ?_ _
                      go_upto_region 31 with fail
                      refine wp_region_held_drew (S := fun w' => w'.cell? ⟨g, j * 10 + 2, none⟩ = some (.int .i64 y.v.k) ∧ w'.cell? ⟨g, j * 10 + 3, none⟩ = some (.int .i64 y.v.n) ∧ w'.cell? ⟨g, j * 10 + 4, none⟩ = some (.float .f64 y.v.f) ∧ w'.cell? ⟨g, j * 10 + 5, none⟩ = some (.string y.v.s) ∧ w'.cell? ⟨gv, 0, none⟩ = some (.int .i64 v.k) ∧ w'.cell? ⟨gv, 1, none⟩ = some (.int .i64 v.n) ∧ w'.cell? ⟨gv, 2, none⟩ = some (.float .f64 v.f) ∧ w'.cell? ⟨gv, 3, none⟩ = some (.string v.s) ∧ w'.cell? ⟨gx, 0, none⟩ = some (.int .i64 x.k) ∧ w'.cell? ⟨gx, 1, none⟩ = some (.int .i64 x.n) ∧ w'.cell? ⟨gx, 2, none⟩ = some (.float .f64 x.f) ∧ w'.cell? ⟨gx, 3, none⟩ = some (.string x.s)) (by kernel_rfl) (HS2.out _ (Below.drew HB3.out)) (fun hH => ?_)
                      refine wpAnyH_take (i := 0) (oi := ?or14x0) (v := ?vr14x0) ?hir14x0 ?hsr14x0 ?hfr14x0 ?hrr14x0 ?hQr14x0 (Or.inl ⟨?hwr14x0, ?hyr14x0⟩) ?hSr14x0 ?restr14x0
                      case hir14x0 => (simp; rfl)
                      case hsr14x0 => kernel_rfl
                      case hfr14x0 => kernel_rfl
                      case hrr14x0 => kernel_rfl
                      case hQr14x0 => exact fun _ _ _ h => h
                      case hwr14x0 => rfl
                      case hyr14x0 => (intro wq hSq; (try dsimp only at hSq); go_simp; (try with_reducible rfl))
                      case hSr14x0 => assumption
                      simp only [Act.put, List.setIfInBounds_toArray, List.set_cons_zero, List.set_cons_succ]
                      refine wpAnyH_take (i := 1) (oi := ?or14x1) (v := ?vr14x1) ?hir14x1 ?hsr14x1 ?hfr14x1 ?hrr14x1 ?hQr14x1 (Or.inl ⟨?hwr14x1, ?hyr14x1⟩) ?hSr14x1 ?restr14x1
                      case hir14x1 => (simp; rfl)
                      case hsr14x1 => kernel_rfl
                      case hfr14x1 => kernel_rfl
                      case hrr14x1 => kernel_rfl
                      case hQr14x1 => exact fun _ _ _ h => h
                      case hwr14x1 => rfl
                      case hyr14x1 => (intro wq hSq; (try dsimp only at hSq); go_simp; (try with_reducible rfl))
                      case hSr14x1 => assumption
                      simp only [Act.put, List.setIfInBounds_toArray, List.set_cons_zero, List.set_cons_succ]
                      refine wpAnyH_take (i := 2) (oi := ?or14x2) (v := ?vr14x2) ?hir14x2 ?hsr14x2 ?hfr14x2 ?hrr14x2 ?hQr14x2 (Or.inl ⟨?hwr14x2, ?hyr14x2⟩) ?hSr14x2 ?restr14x2
                      case hir14x2 => (simp; rfl)
                      case hsr14x2 => kernel_rfl
                      case hfr14x2 => kernel_rfl
                      case hrr14x2 => kernel_rfl
                      case hQr14x2 => exact fun _ _ _ h => h
                      case hwr14x2 => rfl
                      case hyr14x2 => (intro wq hSq; (try dsimp only at hSq); go_simp; (try with_reducible rfl))
                      case hSr14x2 => assumption
                      simp only [Act.put, List.setIfInBounds_toArray, List.set_cons_zero, List.set_cons_succ]
                      refine wpAnyH_take (i := 3) (oi := ?or14x3) (v := ?vr14x3) ?hir14x3 ?hsr14x3 ?hfr14x3 ?hrr14x3 ?hQr14x3 (Or.inl ⟨?hwr14x3, ?hyr14x3⟩) ?hSr14x3 ?restr14x3
                      case hir14x3 => (simp; rfl)
                      case hsr14x3 => kernel_rfl
                      case hfr14x3 => kernel_rfl
                      case hrr14x3 => kernel_rfl
                      case hQr14x3 => exact fun _ _ _ h => h
                      case hwr14x3 => rfl
                      case hyr14x3 => (intro wq hSq; (try dsimp only at hSq); go_simp; (try with_reducible rfl))
                      case hSr14x3 => assumption
                      simp only [Act.put, List.setIfInBounds_toArray, List.set_cons_zero, List.set_cons_succ]
                      refine wpAnyH_take (i := 4) (oi := ?or14x4) (v := ?vr14x4) ?hir14x4 ?hsr14x4 ?hfr14x4 ?hrr14x4 ?hQr14x4 (Or.inl ⟨?hwr14x4, ?hyr14x4⟩) ?hSr14x4 ?restr14x4
                      case hir14x4 => (simp; rfl)
                      case hsr14x4 => kernel_rfl
                      case hfr14x4 => kernel_rfl
                      case hrr14x4 => kernel_rfl
                      case hQr14x4 => exact fun _ _ _ h => h
                      case hwr14x4 => rfl
                      case hyr14x4 => (intro wq hSq; (try dsimp only at hSq); go_simp; (try with_reducible rfl))
                      case hSr14x4 => assumption
                      simp only [Act.put, List.setIfInBounds_toArray, List.set_cons_zero, List.set_cons_succ]
                      refine wpAnyH_take (i := 5) (oi := ?or14x5) (v := ?vr14x5) ?hir14x5 ?hsr14x5 ?hfr14x5 ?hrr14x5 ?hQr14x5 (Or.inl ⟨?hwr14x5, ?hyr14x5⟩) ?hSr14x5 ?restr14x5
                      case hir14x5 => (simp; rfl)
                      case hsr14x5 => kernel_rfl
                      case hfr14x5 => kernel_rfl
                      case hrr14x5 => kernel_rfl
                      case hQr14x5 => exact fun _ _ _ h => h
                      case hwr14x5 => rfl
                      case hyr14x5 => (intro wq hSq; (try dsimp only at hSq); go_simp; (try with_reducible rfl))
                      case hSr14x5 => assumption
                      simp only [Act.put, List.setIfInBounds_toArray, List.set_cons_zero, List.set_cons_succ]
                      refine wpAnyH_ready (rs := [6]) (by kernel_rfl) (by simp) ?_
                      refine AllReadyH.cons (o := ?or14x6) ?hir14x6 (fun K hK => ?_) AllReadyH.nil
                      case hir14x6 => (simp; rfl)
                      go_simp
                      refine (refCmpV_any y.v v _).mono ?_
                      rintro e w4 ⟨rfl, hb9⟩
                      rw [hC1]
                      have HB4 : Hid (Below wg.heap.size wg w4) := Mm.hid (by rw [hb9]; exact ((Below.drew HB3.out).alloc ((Below.drew HB3.out)).size _).alloc (Nat.le_trans ((Below.drew HB3.out)).size (by simp)) _)
                      clear hb9
                      go_wp2_with fail
                      refine hK.out _ _ (HS2.out _ HB4.out) (fun hHr14x6 => ?_)
                      clear hK K
                      refine wpAnyH_take (i := 7) (oi := ?or14x7) (v := ?vr14x7) ?hir14x7 ?hsr14x7 ?hfr14x7 ?hrr14x7 ?hQr14x7 (Or.inl ⟨?hwr14x7, ?hyr14x7⟩) ?hSr14x7 ?restr14x7
                      case hir14x7 => (simp; rfl)
                      case hsr14x7 => kernel_rfl
                      case hfr14x7 => kernel_rfl
                      case hrr14x7 => kernel_rfl
                      case hQr14x7 => exact fun _ _ _ h => h
                      case hwr14x7 => rfl
                      case hyr14x7 => (intro wq hSq; (try dsimp only at hSq); go_simp; (try with_reducible rfl))
                      case hSr14x7 => assumption
                      simp only [Act.put, List.setIfInBounds_toArray, List.set_cons_zero, List.set_cons_succ]
                      refine wpAnyH_take (i := 8) (oi := ?or14x8) (v := ?vr14x8) ?hir14x8 ?hsr14x8 ?hfr14x8 ?hrr14x8 ?hQr14x8 (Or.inl ⟨?hwr14x8, ?hyr14x8⟩) ?hSr14x8 ?restr14x8
                      case hir14x8 => (simp; rfl)
                      case hsr14x8 => kernel_rfl
                      case hfr14x8 => kernel_rfl
                      case hrr14x8 => kernel_rfl
                      case hQr14x8 => exact fun _ _ _ h => h
                      case hwr14x8 => rfl
                      case hyr14x8 => (intro wq hSq; (try dsimp only at hSq); go_simp; (try with_reducible rfl))
                      case hSr14x8 => assumption
                      simp only [Act.put, List.setIfInBounds_toArray, List.set_cons_zero, List.set_cons_succ]
                      refine wpAnyH_take (i := 9) (oi := ?or14x9) (v := ?vr14x9) ?hir14x9 ?hsr14x9 ?hfr14x9 ?hrr14x9 ?hQr14x9 (Or.inl ⟨?hwr14x9, ?hyr14x9⟩) ?hSr14x9 ?restr14x9
                      case hir14x9 => (simp; rfl)
                      case hsr14x9 => kernel_rfl
                      case hfr14x9 => kernel_rfl
                      case hrr14x9 => kernel_rfl
                      case hQr14x9 => exact fun _ _ _ h => h
                      case hwr14x9 => rfl
                      case hyr14x9 => (intro wq hSq; (try dsimp only at hSq); go_simp; (try with_reducible rfl))
                      case hSr14x9 => assumption
                      simp only [Act.put, List.setIfInBounds_toArray, List.set_cons_zero, List.set_cons_succ]
                      refine wpAnyH_take (i := 10) (oi := ?or14x10) (v := ?vr14x10) ?hir14x10 ?hsr14x10 ?hfr14x10 ?hrr14x10 ?hQr14x10 (Or.inl ⟨?hwr14x10, ?hyr14x10⟩) ?hSr14x10 ?restr14x10
                      case hir14x10 => (simp; rfl)
                      case hsr14x10 => kernel_rfl
                      case hfr14x10 => kernel_rfl
                      case hrr14x10 => kernel_rfl
                      case hQr14x10 => exact fun _ _ _ h => h
                      case hwr14x10 => rfl
                      case hyr14x10 => (intro wq hSq; (try dsimp only at hSq); go_simp; (try with_reducible rfl))
                      case hSr14x10 => assumption
                      simp only [Act.put, List.setIfInBounds_toArray, List.set_cons_zero, List.set_cons_succ]
                      refine wpAnyH_take (i := 11) (oi := ?or14x11) (v := ?vr14x11) ?hir14x11 ?hsr14x11 ?hfr14x11 ?hrr14x11 ?hQr14x11 (Or.inl ⟨?hwr14x11, ?hyr14x11⟩) ?hSr14x11 ?restr14x11
                      case hir14x11 => (simp; rfl)
                      case hsr14x11 => kernel_rfl
                      case hfr14x11 => kernel_rfl
                      case hrr14x11 => kernel_rfl
                      case hQr14x11 => exact fun _ _ _ h => h
                      case hwr14x11 => rfl
                      case hyr14x11 => (intro wq hSq; (try dsimp only at hSq); go_simp; (try with_reducible rfl))
                      case hSr14x11 => assumption
                      simp only [Act.put, List.setIfInBounds_toArray, List.set_cons_zero, List.set_cons_succ]
                      refine wpAnyH_take (i := 12) (oi := ?or14x12) (v := ?vr14x12) ?hir14x12 ?hsr14x12 ?hfr14x12 ?hrr14x12 ?hQr14x12 (Or.inl ⟨?hwr14x12, ?hyr14x12⟩) ?hSr14x12 ?restr14x12
                      case hir14x12 => (simp; rfl)
                      case hsr14x12 => kernel_rfl
                      case hfr14x12 => kernel_rfl
                      case hrr14x12 => kernel_rfl
                      case hQr14x12 => exact fun _ _ _ h => h
                      case hwr14x12 => rfl
                      case hyr14x12 => (intro wq hSq; (try dsimp only at hSq); go_simp; (try with_reducible rfl))
                      case hSr14x12 => assumption
                      simp only [Act.put, List.setIfInBounds_toArray, List.set_cons_zero, List.set_cons_succ]
                      refine wpAnyH_take (i := 13) (oi := ?or14x13) (v := ?vr14x13) ?hir14x13 ?hsr14x13 ?hfr14x13 ?hrr14x13 ?hQr14x13 (Or.inl ⟨?hwr14x13, ?hyr14x13⟩) ?hSr14x13 ?restr14x13
                      case hir14x13 => (simp; rfl)
                      case hsr14x13 => kernel_rfl
                      case hfr14x13 => kernel_rfl
                      case hrr14x13 => kernel_rfl
                      case hQr14x13 => exact fun _ _ _ h => h
                      case hwr14x13 => rfl
                      case hyr14x13 => (intro wq hSq; (try dsimp only at hSq); go_simp; (try with_reducible rfl))
                      case hSr14x13 => assumption
                      simp only [Act.put, List.setIfInBounds_toArray, List.set_cons_zero, List.set_cons_succ]
                      refine wpAnyH_take (i := 14) (oi := ?or14x14) (v := ?vr14x14) ?hir14x14 ?hsr14x14 ?hfr14x14 ?hrr14x14 ?hQr14x14 (Or.inl ⟨?hwr14x14, ?hyr14x14⟩) ?hSr14x14 ?restr14x14
                      case hir14x14 => (simp; rfl)
                      case hsr14x14 => kernel_rfl
                      case hfr14x14 => kernel_rfl
                      case hrr14x14 => kernel_rfl
                      case hQr14x14 => exact fun _ _ _ h => h
                      case hwr14x14 => rfl
                      case hyr14x14 => (intro wq hSq; (try dsimp only at hSq); go_simp; (try with_reducible rfl))
                      case hSr14x14 => assumption
                      simp only [Act.put, List.setIfInBounds_toArray, List.set_cons_zero, List.set_cons_succ]
                      refine wpAnyH_ready (rs := [15]) (by kernel_rfl) (by simp) ?_
                      refine AllReadyH.cons (o := ?or14x15) ?hir14x15 (fun K hK => ?_) AllReadyH.nil
                      case hir14x15 => (simp; rfl)
                      go_simp
                      refine (refCmpV_any y.v x _).mono ?_
                      rintro e w4b ⟨rfl, hb9⟩
                      rw [hC2]
                      have HB4b : Hid (Below wg.heap.size wg w4b) := Mm.hid (by rw [hb9]; exact (HB4.out.alloc (HB4.out).size _).alloc (Nat.le_trans (HB4.out).size (by simp)) _)
                      clear hb9
                      go_wp2_with fail
                      refine hK.out _ _ (HS2.out _ HB4b.out) (fun hHr14x15 => ?_)
                      clear hK K
                      refine wpAnyH_take (i := 16) (oi := ?or14x16) (v := ?vr14x16) ?hir14x16 ?hsr14x16 ?hfr14x16 ?hrr14x16 ?hQr14x16 (Or.inl ⟨?hwr14x16, ?hyr14x16⟩) ?hSr14x16 ?restr14x16
                      case hir14x16 => (simp; rfl)
                      case hsr14x16 => kernel_rfl
                      case hfr14x16 => kernel_rfl
                      case hrr14x16 => kernel_rfl
                      case hQr14x16 => exact fun _ _ _ h => h
                      case hwr14x16 => rfl
                      case hyr14x16 => (intro wq hSq; (try dsimp only at hSq); go_simp; (try with_reducible rfl))
                      case hSr14x16 => assumption
                      simp only [Act.put, List.setIfInBounds_toArray, List.set_cons_zero, List.set_cons_succ]
                      refine wpAnyH_take (i := 17) (oi := ?or14x17) (v := ?vr14x17) ?hir14x17 ?hsr14x17 ?hfr14x17 ?hrr14x17 ?hQr14x17 (Or.inl ⟨?hwr14x17, ?hyr14x17⟩) ?hSr14x17 ?restr14x17
                      case hir14x17 => (simp; rfl)
                      case hsr14x17 => kernel_rfl
                      case hfr14x17 => kernel_rfl
                      case hrr14x17 => kernel_rfl
                      case hQr14x17 => exact fun _ _ _ h => h
                      case hwr14x17 => rfl
                      case hyr14x17 => (intro wq hSq; (try dsimp only at hSq); go_simp; (try with_reducible rfl))
                      case hSr14x17 => assumption
                      simp only [Act.put, List.setIfInBounds_toArray, List.set_cons_zero, List.set_cons_succ]
                      refine wpAnyH_done (by kernel_rfl) ?_ _
                      go_wp2_with fail
                      exact ⟨⟨j + 1, a + 0, b + 0, by omega, by go_num, by go_num, by go_num, by omega, by omega, Mm.hid ⟨by rw [HCT.out.1, HSAME.out, ← HAB.out.1], by rw [HCT.out.2, HBETW.out, ← HAB.out.2]⟩, HB4b⟩, by simp [RowKit.intOf]; omega⟩
              · obtain rfl : j = n := by omega
                have ht : ins.take j = ins := List.take_of_length_le (by rw [← HN.out]; exact Nat.le_refl _)
                have HAe : Hid (nT = a ∧ nU = b) := Mm.hid ⟨by rw [HAB.out.1, ht, ← HAT.out.1]; exact HNT.out.symm, by rw [HAB.out.2, ht, ← HAU.out.1]; exact HNU.out.symm⟩
                obtain ⟨rfl, rfl⟩ := HAe.out
                clear HAe HAB ht haj hbj hj hjn
                go_wp2_with fail
                go_loopw [24] (fun vi wq => ∃ j : Nat, vi = .int .i64 (j : Int) ∧ 1 ≤ j ∧ Hid (Below wg.heap.size wg wq)) (fun vi _ => nT + 1 - (RowKit.intOf vi).toNat)
                case atStart => exact ⟨1, rfl, Nat.le_refl _, HBr⟩
                case round =>
                  clear HBr
                  obtain ⟨j2, rfl, hi, HBr⟩ := hrel
                  by_cases hin : j2 < nT
                  · obtain ⟨i, hji⟩ : ∃ i, j2 = i + 1 := ⟨j2 - 1, by omega⟩
                    obtain ⟨a, ha⟩ : ∃ a, T[i]? = some a := ⟨T[i]'(by rw [HNT.out]; omega), List.getElem?_eq_getElem _⟩
                    obtain ⟨c, hc⟩ : ∃ a, T[j2]? = some a := ⟨T[j2]'(by rw [HNT.out]; omega), List.getElem?_eq_getElem _⟩
                    have hlt : a < c := by
                      have h1 := List.pairwise_iff_getElem.1 HAT.out.2.2 i j2 (by rw [HNT.out]; omega) (by rw [HNT.out]; omega) (by omega)
                      rw [(List.getElem?_eq_some_iff.1 ha).2, (List.getElem?_eq_some_iff.1 hc).2] at h1
                      exact h1
                    obtain ⟨b1, o1, p1, b1l, x1⟩ := HIT.out i a ha
                    obtain ⟨b2, o2, p2, b2l, x2⟩ := HIT.out j2 c hc
                    subst p1
                    injection p2 with p2
                    injection p2 with p2 p3 _
                    subst p2 p3
                    have HS5 : Hid (∀ w', Below wg.heap.size wg w' → w'.cell? ⟨b1, o1 + i, none⟩ = some (.int .i64 a) ∧ w'.cell? ⟨b1, o1 + j2, none⟩ = some (.int .i64 c)) := Mm.hid (fun w' hw => ⟨(Mm.belAt hw _ b1l).trans x1, (Mm.belAt hw _ b1l).trans x2⟩)
                    have k1 : decide (c ≤ a) = false := decide_eq_false (by omega)
                    have k2 : ¬ c ≤ a := by omega
                    have k3 := HNN.out.1
                    have m1 : (0 : Int) ≤ (i : Int) := by omega
                    have m2 : (i : Int) < (nT : Int) := by omega
                    have m4 : (0 : Int) ≤ (j2 : Int) := by omega
                    have m5 : (j2 : Int) < (nT : Int) := by omega
                    have m6 : wrap64 ((j2 : Int) - 1) = (i : Int) := by unfold wrap64; omega
                    have m7 : IntKind.i64.wrap ((j2 : Int) - 1) = (i : Int) := by rw [IntKind.wrap_i64]; omega
                    have HJI := Mm.hid hji
                    clear ha hc x1 x2 b2l hji
                    go_upto_region 38 with fail
                    go_region_held3 (fun w' => w'.cell? ⟨b1, o1 + i, none⟩ = some (.int .i64 a) ∧ w'.cell? ⟨b1, o1 + j2, none⟩ = some (.int .i64 c)) (first | exact HS5.out _ (Below.drew HBr.out) | exact HS5.out _ HBr.out) (fail)
                    go_wp2_with fail
                    exact ⟨⟨j2 + 1, by go_num, by omega, Mm.hid (Below.drew HBr.out)⟩, by simp [RowKit.intOf]; omega⟩
                  · have m3 : ¬ ((j2 : Int) < (nT : Int)) := by omega
                    have HL := Mm.hid (ilen_any (Mm.hid (HSg.out.below HBr.out).q))
                    rw [HCN.out] at HL
                    clear hin
                    go_wp2_with fail
                    refine HL.out.mono ?_
                    rintro e wy ⟨rfl, hb⟩
                    have HBy := Mm.hid (Vl.btr (HSg.out.below HBr.out).b hb)
                    clear hb HL
                    go_wp2_with fail
                    refine (wakesI_any _ (HM.out.below HBy.out)).mono ?_
                    rintro e wk ⟨rfl, hb⟩
                    have HBK := Mm.hid (Vl.btr HBy.out hb)
                    clear hb
                    go_wp2_with fail
                    go_ret
                    exact ⟨rfl, HBK.out⟩
end Go.Proofs.YtjnaafgiokdcbaaGreatDoor
