/- The law LeafCovers. -/
import Derived.Test.YtngflihiailllaaLc4
import Derived.Deep.CutRange
namespace Go.Proofs.Ytngflihiailllaa
open Go.RowKit

namespace Lf
/-- append of a row of numbers, as one step of a region that draws. -/
theorem stepAll {ops : Array Oper} {o : Oper} {a : Act} {w : World} {K : Act → World → Prop} {Q : Exit → Act → World → Prop} {E : Prop} (hgd : o.guard = none) (s x : Operand) (ho : o.op = .call { callee := .builtin .append, args := #[s, x], argTypes := #[42, 42] }) (base : Nat) (v : Value) (hs : a.eval s = v) (hown : w.ownsRow base 3 1 v 0 []) (q : Option Addr) (m c : Nat) (C : List Nat) (hx : a.eval x = .slice q m c) (hC : C.length = m) (hI : Mm.IIn w q (C.map (fun n : Nat => (n : Int)))) (hm : m ≤ 100000) (hbase : base ≤ w.heap.size) (hne : C ≠ [])
    (h : ∀ v' w', Mm.Own w' base 3 v' (Mm.nts C) → w.grownBy w' v.ownBlock → (v'.ownBlock = v.ownBlock ∨ ∀ g, v'.ownBlock = some g → w.heap.size ≤ g) → K (a.put o.dst v') w') : if Region.wanted o (yielded ops a.tmps) = true then Oper.wp Try.prog o a w K Q else E := by
  have hw : Region.wanted o (yielded ops a.tmps) = true := by simp [Region.wanted, hgd]
  rw [if_pos hw]
  obtain ⟨i, h1, h2, h3, h4⟩ := Mm.int1
  cases q with
  | none =>
    have hm0 : C = [] := by
      cases C with
      | nil => rfl
      | cons y r =>
        obtain ⟨b, o, e, _⟩ := hI 0 (y : Int) rfl
        cases e
    exact absurd hm0 hne
  | some ad =>
    obtain ⟨v', w', hr, r2, r3, _, r5⟩ := run_append_own_at (P := Try.prog) w base 42 o.type 3 i _ 1 8 Try.underlying42 h1 h2 h3 h4 rfl (by decide) v 0 [] hown ad m c (Mm.nts C) (by rw [Mm.nts_len, Nat.mul_one]; exact hC) (fun j u hj => by
      unfold Mm.nts at hj
      rw [List.getElem?_map] at hj
      cases hy : C[j]? with
      | none => rw [hy] at hj; cases hj
      | some y =>
        rw [hy] at hj
        cases hj
        obtain ⟨b, o, e, _, e3⟩ := hI j (y : Int) (by rw [List.getElem?_map, hy]; rfl)
        injection e with e
        rw [e, Mm.addPlain]
        exact e3) (Mm.nts_one _) (by unfold maxLen; omega) (by omega) hbase
    unfold Oper.wp execOp
    simp only [ho, resolve, invoke, builtin, Sem.run_bind, Sem.run_pure, Result.andThen_ok, List.map_toArray, List.map_cons, List.map_nil, hs, hx, hr]
    refine h v' w' ?_ r3 ?_
    · unfold Mm.Own
      rw [Mm.nts_len, hC]
      simpa using r2
    · rcases r5 with r5 | r5
      · exact Or.inl r5
      · exact Or.inr (fun g hg => by rw [r5] at hg; injection hg with hg; omega)
end Lf

set_option maxRecDepth 100000 in
set_option maxHeartbeats 4000000 in
theorem leafCovers_w (a : Option Addr) (l c : Nat) (zs : List Cg.Stp) (a2 : Option Addr) (l2 c2 : Nat) (zs2 : List Cg.Stp) (kd : Int) (key tto : ByteArray) (W : World) (hz0 : Cg.Stps W a l c zs) (hz2 : Cg.Stps W a2 l2 c2 zs2) (_ : True) : Calls Try.prog 4 #[.slice a l c, .slice a2 l2 c2, .agg #[.int .i64 kd, .string key, .string tto]] W fun e w' => e = .returned (.bool true) ∧ Below W.heap.size W w' := by
  have HZ := Mm.hid hz0
  have HZ2 := Mm.hid hz2
  have hbig : l ≤ 9223372036854775807 := by have := hz0.big; unfold maxLen at this; omega
  have hbig2 : l2 ≤ 9223372036854775807 := by have := hz2.big; unfold maxLen at this; omega
  obtain ⟨W0, hW0⟩ : ∃ W0, W.alloc (.cells #[.int .i64 kd, .string key, .string tto] 33) = W0 := ⟨_, rfl⟩
  have HB0 : Hid (Below W.heap.size W W0) := Mm.hid (by rw [← hW0]; exact (Below.refl _ W).alloc (Nat.le_refl _) _)
  have HX0 : Hid (W0.heap[W.heap.size]? = some (.cells #[.int .i64 kd, .string key, .string tto] 33 (0, 0))) := Mm.hid (by rw [← hW0]; exact Mm.newAt W _ rfl)
  have HL0 : Hid (W.heap.size < W0.heap.size) := Mm.hid (Mm.heapLt HX0.out)
  clear hz0 hz2
  go_enter Try.func4, Try.ntmps4
  go_wp2_with fail
  refine (mod6_any (l : Int) W0).mono ?_
  rintro e w1 ⟨⟨m, hm, rfl⟩, rfl⟩
  obtain ⟨f, hf⟩ : ∃ f, f = 2 + m := ⟨_, rfl⟩
  have HF : Hid (2 + (m : Int) = (f : Int)) := Mm.hid (by omega)
  have hf2 : 2 ≤ f := by omega
  have hf7 : f ≤ 7 := by omega
  clear hf hW0
  go_wp2_with fail
  rw [HF.out]
  with_reducible refine (new_any f hf2 (by omega) w1).mono ?_
  rintro e w2 ⟨rfl, rfl⟩
  have HB2 : Hid (Below W.heap.size W (Lf.W0 w1 f)) := Mm.hid (HB0.out.trans ((Lf.bel0 w1 f).mono HB0.out.size))
  have HBB2 := Mm.hid (Lf.bel0 w1 f)
  have HQ2 := Mm.hid (Lf.lq0 w1 f hf2 (by omega))
  have HX2 : Hid ((Lf.W0 w1 f).heap[W.heap.size]? = some (.cells #[.int .i64 kd, .string key, .string tto] 33 (0, 0))) := Mm.hid (((Lf.bel0 w1 f).block _ HL0.out).trans HX0.out)
  obtain ⟨h, hh⟩ : ∃ h, h = w1.heap.size := ⟨_, rfl⟩
  rw [← hh] at HQ2 HBB2
  have HHL : Hid (W.heap.size < h ∧ h ≤ (Lf.W0 w1 f).heap.size) := Mm.hid ⟨by rw [hh]; exact HL0.out, by rw [hh]; exact (Lf.bel0 w1 f).size⟩
  obtain ⟨p, hp⟩ : ∃ p, p = w1.heap.size + 2 := ⟨_, rfl⟩
  rw [← hp] at ⊢
  rw [hh, ← hp] at HQ2
  rw [← hh] at HQ2
  generalize Lf.W0 w1 f = w2 at HB2 HQ2 HX2 HHL HBB2 ⊢
  clear hp hh
  go_wp2_with fail
  refine (fair_any a l c zs W w2 HZ HB2 hbig).mono ?_
  rintro e w3 ⟨b, rfl, hb, rfl⟩
  cases b with
  | false =>
    go_wp2_with fail
    refine (wakes_any _).mono ?_
    rintro e w4 ⟨rfl, hb4⟩
    have HB4 : Hid (Below W.heap.size W w4) := Mm.hid (HB2.out.trans (hb4.mono HB2.out.size))
    clear hb4
    go_wp2_with fail
    go_ret
    exact ⟨rfl, HB4.out⟩
  | true =>
    have hl : l ≤ 200 := hb rfl
    clear hb hbig
    go_wp2_with fail
    refine (fair_any a2 l2 c2 zs2 W w3 HZ2 HB2 hbig2).mono ?_
    rintro e w4 ⟨b, rfl, hb, rfl⟩
    cases b with
    | false =>
      go_wp2_with fail
      refine (wakes_any _).mono ?_
      rintro e w5 ⟨rfl, hb5⟩
      have HB5 : Hid (Below W.heap.size W w5) := Mm.hid (HB2.out.trans (hb5.mono HB2.out.size))
      clear hb5
      go_wp2_with fail
      go_ret
      exact ⟨rfl, HB5.out⟩
    | true =>
      have hl2 : l2 ≤ 200 := hb rfl
      clear hb hbig2
      have x0 : w4.cell? ⟨W.heap.size, 0, none⟩ = some (.int .i64 kd) := Mm.cellOf HX2.out rfl
      have x1 : w4.cell? ⟨W.heap.size, 1, none⟩ = some (.string key) := Mm.cellOf HX2.out rfl
      have x2 : w4.cell? ⟨W.heap.size, 2, none⟩ = some (.string tto) := Mm.cellOf HX2.out rfl
      go_wp2_with fail
      refine (fair_any (some ⟨w4.heap.size, 0, none⟩) 1 1 [⟨kd, key, tto⟩] (w4.alloc (.cells #[.int .i64 kd, .string key, .string tto] 33)) _ (Mm.hid ⟨rfl, Nat.le_refl _, by unfold maxLen; omega, fun i y hy => ?_⟩) (Mm.hid (Below.refl _ _)) (by omega)).mono ?_
      · match i, hy with
        | 0, hy =>
          simp at hy; subst hy
          have hn := Mm.newAt w4 (.cells #[.int .i64 kd, .string key, .string tto] 33) rfl
          exact ⟨w4.heap.size, 0, rfl, Mm.heapLt hn, Mm.cellOf hn rfl, Mm.cellOf hn rfl, Mm.cellOf hn rfl⟩
      rintro e w5 ⟨b, rfl, hb, rfl⟩
      have HBB5 : Hid (Below h w4 (w4.alloc (.cells #[.int .i64 kd, .string key, .string tto] 33))) := Mm.hid ((Below.refl _ w4).alloc HHL.out.2 _)
      have HBW5 : Hid (Below w4.heap.size w4 (w4.alloc (.cells #[.int .i64 kd, .string key, .string tto] 33))) := Mm.hid ((Below.refl _ w4).alloc (Nat.le_refl _) _)
      generalize w4.alloc (.cells #[.int .i64 kd, .string key, .string tto] 33) = w5 at HBB5 HBW5 ⊢
      clear hb x0 x1 x2
      have HQ5 := Mm.hid (HQ2.out.below HBW5.out)
      cases b with
      | false =>
        go_wp2_with fail
        refine (wakes_any _).mono ?_
        rintro e w6 ⟨rfl, hb6⟩
        have HB6 : Hid (Below W.heap.size W w6) := Mm.hid (HB2.out.trans ((HBW5.out.trans (hb6.mono HBW5.out.size)).mono HB2.out.size))
        clear hb6
        go_wp2_with fail
        go_ret
        exact ⟨rfl, HB6.out⟩
      | true =>
        go_wp2_with fail
        go_loopw [10] (fun vi wr => ∃ k : Nat, k ≤ l ∧ vi = .int .i64 (k : Int) ∧ Hid (∃ s tag, Lf.Lq h wr tag p s k ∧ Below h w4 wr)) (fun vi _ => l - (RowKit.intOf vi).toNat)
        case atStart => exact ⟨0, Nat.zero_le _, rfl, Mm.hid ⟨_, _, HQ5.out, HBB5.out⟩⟩
        case round =>
          clear HQ5 HBB5 HBW5 HQ2
          obtain ⟨k, hk, rfl, HL⟩ := hrel
          rename World => wr
          by_cases hlt : k < l
          · obtain ⟨y, hy⟩ : ∃ y, zs[k]? = some y := ⟨zs[k]'(by rw [HZ.out.len]; exact hlt), List.getElem?_eq_getElem _⟩
            obtain ⟨bb, o, rfl, hbl, d0, d1, d2⟩ := HZ.out.at_ k y hy
            obtain ⟨s, tag, hq, hbw⟩ := HL.out
            obtain ⟨yk, ykey, yto⟩ := y
            have hbW : Below W.heap.size W wr := HB2.out.trans (hbw.mono (Nat.le_of_lt HHL.out.1))
            have e0 : wr.cell? ⟨bb, o + k * 3, none⟩ = some (.int .i64 yk) := (Mm.belAt hbW _ hbl).trans d0
            have e1 : wr.cell? ⟨bb, o + k * 3 + 1, none⟩ = some (.string ykey) := (Mm.belAt hbW _ hbl).trans d1
            have e2 : wr.cell? ⟨bb, o + k * 3 + 2, none⟩ = some (.string yto) := (Mm.belAt hbW _ hbl).trans d2
            have g1 : (0 : Int) ≤ (k : Int) := by omega
            have g2 : (k : Int) < (l : Int) := by omega
            have hhw : h ≤ wr.heap.size := Nat.le_trans HHL.out.2 hbw.size
            have HDO := Mm.hid (do_any (Mm.hid hq) (by omega) hhw yk ykey yto)
            have HX := Mm.hid (And.intro hq (And.intro hbw hhw))
            clear hy d0 d1 d2 hq hbw HL hbW hhw
            go_wp2_with fail
            refine HDO.out.mono ?_
            rintro e w6 ⟨s', l', f', t', er, rfl, hr, tag', hq', hE⟩
            have HL2 : Hid (∃ s tag, Lf.Lq h w6 tag p s (k + 1) ∧ Below h w4 w6) := Mm.hid ⟨s', tag', hq', HX.out.2.1.trans (hE.bel HX.out.2.2 HX.out.1.bot)⟩
            clear hr hq' hE e0 e1 e2
            go_wp2_with fail
            exact ⟨⟨k + 1, by omega, by go_num, HL2⟩, by simp [RowKit.intOf]; omega⟩
          · have he : k = l := by omega
            subst he
            obtain ⟨s, tag, hq, hbw⟩ := HL.out
            have HQ := Mm.hid hq
            have HBW := Mm.hid hbw
            have HHR : Hid (h ≤ wr.heap.size) := Mm.hid (Nat.le_trans HHL.out.2 hbw.size)
            have hx : wr.heap[W.heap.size]? = some (.cells #[.int .i64 kd, .string key, .string tto] 33 (0, 0)) := (hbw.block _ HHL.out.1).trans HX2.out
            have x1 : wr.cell? ⟨W.heap.size, 1, none⟩ = some (.string key) := Mm.cellOf hx rfl
            have x2 : wr.cell? ⟨W.heap.size, 2, none⟩ = some (.string tto) := Mm.cellOf hx rfl
            have HRG := Mm.hid (range_q HQ (by omega) key tto)
            have HCL : Hid ((Lf.spanL s key tto).length ≤ 10000) := Mm.hid (by
              unfold Lf.spanL
              split
              · exact Nat.zero_le _
              · unfold Lf.rngL Lf.nums
                rw [List.length_map]
                exact Nat.le_trans (List.takeWhile_sublist _).length_le (Nat.le_trans (List.dropWhile_sublist _).length_le (HQ.out.sm (by omega)).pl))
            clear hq hbw HL hlt hk hx
            go_wp2_with fail
            refine HRG.out.mono ?_
            rintro e w6 ⟨v1, v2, rfl, hT⟩
            have HBW6 : Hid (Below h w4 w6) := Mm.hid (HBW.out.trans (hT.bel.mono HHR.out))
            by_cases hto : tto = ⟨#[]⟩
            · subst hto
              have hcov : Lf.Cov s key ⟨#[]⟩ (Lf.spanL s key ⟨#[]⟩) := Lf.cov_start HQ.out.2.1 (Or.inl rfl)
              have hne : Lf.spanL s key ⟨#[]⟩ ≠ [] := fun e => by
                have h1 := hcov key (Lf.lt_irr _) (Or.inl rfl)
                rw [e] at h1; cases h1
              obtain ⟨q2, cq2, ev2, _⟩ := hT.o2.shape
              obtain ⟨Lc2, hLc2⟩ : ∃ Lc, Lc = (Mm.nts (Lf.spanL s key ⟨#[]⟩)).length := ⟨_, rfl⟩
              rw [← hLc2] at ev2
              subst ev2
              have hl0 : ((Lc2 : Int) == 0) = false := by
                have : 0 < (Lf.spanL s key ⟨#[]⟩).length := List.length_pos_iff.2 hne
                rw [Mm.nts_len] at hLc2
                simp; omega
              have HQ6 : Hid (∃ sx tg, Lf.Lq h w6 tg p sx (k + 0) ∧ Lf.Cov sx key ⟨#[]⟩ (Lf.spanL s key ⟨#[]⟩) ∧ (∀ g, (Value.slice q2 Lc2 cq2).ownBlock = some g → tg g = none)) := Mm.hid ⟨s, tag, HQ.out.below hT.bel, hcov, fun g hg => HQ.out.top g (hT.o2.lt hg).2⟩
              have HO6 := Mm.hid (hT.o2.base HHR.out)
              have hx6 : w6.heap[W.heap.size]? = some (.cells #[.int .i64 kd, .string key, .string ⟨#[]⟩] 33 (0, 0)) := (HBW6.out.block _ HHL.out.1).trans HX2.out
              have x1 : w6.cell? ⟨W.heap.size, 1, none⟩ = some (.string key) := Mm.cellOf hx6 rfl
              have x2 : w6.cell? ⟨W.heap.size, 2, none⟩ = some (.string ⟨#[]⟩) := Mm.cellOf hx6 rfl
              have HC6 : Hid (Below h w4 w6 ∧ (Lf.spanL s key ⟨#[]⟩).length ≤ 10000 + 0 ∧ Lf.spanL s key ⟨#[]⟩ ≠ []) := Mm.hid ⟨HBW6.out, HCL.out, hne⟩
              clear hcov hne hLc2 hT hx6
              go_wp2_with fail
              clear x1 x2
              go_loopw [12, 13] (fun vc vi wr => ∃ (i : Nat) (C : List Nat), i ≤ l2 ∧ vi = .int .i64 (i : Int) ∧ Hid (∃ s tag, Lf.Lq h wr tag p s (k + i) ∧ Lf.Cov s key ⟨#[]⟩ C ∧ (∀ g, vc.ownBlock = some g → tag g = none)) ∧ Hid (Mm.Own wr h 3 vc (Mm.nts C)) ∧ Hid (Below h w4 wr ∧ C.length ≤ 10000 + i ∧ C ≠ [])) (fun _ vi _ => l2 - (RowKit.intOf vi).toNat)
              case atStart => exact ⟨0, _, Nat.zero_le _, rfl, HQ6, HO6, HC6⟩
              case round =>
                clear HQ6 HO6 HC6 HBW6
                obtain ⟨i, C, hi, rfl, HL, HO, HC⟩ := hrel
                rename World => wr
                by_cases hlt : i < l2
                · obtain ⟨y, hy⟩ : ∃ y, zs2[i]? = some y := ⟨zs2[i]'(by rw [HZ2.out.len]; exact hlt), List.getElem?_eq_getElem _⟩
                  obtain ⟨bb, o, rfl, hbl, d0, d1, d2⟩ := HZ2.out.at_ i y hy
                  obtain ⟨s7, tag7, hq, hcv, htg⟩ := HL.out
                  have hbW : Below W.heap.size W wr := HB2.out.trans (HC.out.1.mono (Nat.le_of_lt HHL.out.1))
                  obtain ⟨yk, ykey, yto⟩ := y
                  have e0 : wr.cell? ⟨bb, o + i * 3, none⟩ = some (.int .i64 yk) := (Mm.belAt hbW _ hbl).trans d0
                  have e1 : wr.cell? ⟨bb, o + i * 3 + 1, none⟩ = some (.string ykey) := (Mm.belAt hbW _ hbl).trans d1
                  have e2 : wr.cell? ⟨bb, o + i * 3 + 2, none⟩ = some (.string yto) := (Mm.belAt hbW _ hbl).trans d2
                  have g1 : (0 : Int) ≤ (i : Int) := by omega
                  have g2 : (i : Int) < (l2 : Int) := by omega
                  have hhw : h ≤ wr.heap.size := Nat.le_trans HHL.out.2 HC.out.1.size
                  have HDO := Mm.hid (do_any (Mm.hid hq) (by omega) hhw yk ykey yto)
                  have HQX := Mm.hid hq
                  have HCVX := Mm.hid hcv
                  have HTGX := Mm.hid htg
                  have HHWX := Mm.hid hhw
                  have HYL := Mm.hid (And.intro hbl d0)
                  clear hy d0 d1 d2 hq hcv htg HL hbW hhw
                  obtain ⟨qc, cc, evc, _⟩ := HO.out.shape
                  obtain ⟨Lc, hLc⟩ : ∃ Lc, Lc = (Mm.nts C).length := ⟨_, rfl⟩
                  rw [← hLc] at evc
                  subst evc
                  have HLC : Hid (C.length = Lc) := Mm.hid (by rw [hLc, Mm.nts_len])
                  clear hLc
                  go_wp2_with fail
                  refine HDO.out.mono ?_
                  rintro e w7 ⟨s8, ln, fm, tm, er, rfl, hr, tag8, hq8, hE⟩
                  have HR := Mm.hid hr
                  have HE8 := Mm.hid hE
                  have HO7 : Hid (Mm.Own w7 h 3 (.slice qc Lc cc) (Mm.nts C)) := Mm.hid (HO.out.keep (fun g hg => hE.block g (HO.out.lt hg).1 (HTGX.out g hg)))
                  have HT7 : Hid (∀ g, (Value.slice qc Lc cc).ownBlock = some g → tag8 g = none) := Mm.hid (fun g hg => hE.tags g (HO.out.lt hg).1 (HTGX.out g hg))
                  have HB7 : Hid (Below h w4 w7) := Mm.hid (HC.out.1.trans (hE.bel HHWX.out HQX.out.bot))
                  have HQ8 : Hid (Lf.Lq h (w7.alloc (.cells #[.int .i64 (fm : Int), .int .i64 (tm : Int)] 35)) tag8 p s8 (k + (i + 1))) := Mm.hid (by rw [← Nat.add_assoc]; exact hq8.below ((Below.refl _ _).alloc (Nat.le_refl _) _))
                  have HTOP : Hid (∀ g, w7.heap.size ≤ g → tag8 g = none) := Mm.hid hq8.top
                  have HCV8 : Hid (Lf.Cov s8 key ⟨#[]⟩ (if fm ≠ 0 ∧ fm ∈ C then C ++ [tm] else C)) := Mm.hid (Lf.cov_step HQX.out.2.1 hr HCVX.out)
                  have HHW : Hid (h ≤ w7.heap.size) := Mm.hid (Nat.le_trans HHL.out.2 HB7.out.size)
                  clear hr hq8 hE e0 e1 e2 HDO
                  go_upto_region 19 with fail
                  have hX8 : (w7.alloc (.cells #[.int .i64 (fm : Int), .int .i64 (tm : Int)] 35)).heap[w7.heap.size]? = some (.cells #[.int .i64 (fm : Int), .int .i64 (tm : Int)] 35 (0, 0)) := Mm.newAt w7 _ rfl
                  have hB8 : Below w7.heap.size w7 (w7.alloc (.cells #[.int .i64 (fm : Int), .int .i64 (tm : Int)] 35)) := (Below.refl _ _).alloc (Nat.le_refl _) _
                  obtain ⟨mb, hmb⟩ : ∃ mb, mb = w7.heap.size := ⟨_, rfl⟩
                  rw [← hmb] at hX8 ⊢
                  generalize w7.alloc (.cells #[.int .i64 (fm : Int), .int .i64 (tm : Int)] 35) = w8 at hX8 hB8 HQ8 ⊢
                  have HO8 : Hid (Mm.Own w8 h 3 (.slice qc Lc cc) (Mm.nts C)) := Mm.hid (HO7.out.below hB8)
                  have HX8 := Mm.hid hX8
                  have HB8 : Hid (Below h w4 w8) := Mm.hid (HB7.out.trans (hB8.mono HHW.out))
                  have HSZ : Hid (w7.heap.size ≤ w8.heap.size) := Mm.hid hB8.size
                  clear hX8 hB8 hmb
                  go_cut [119] from 90 to 159 (fun vt wx => vt = .bool (decide (fm ≠ 0 ∧ fm ∈ C)) ∧ wx = w8)
                  case first =>
                    have d0 : w8.cell? ⟨mb, 0, none⟩ = some (.int .i64 (fm : Int)) := Mm.cellOf HX8.out rfl
                    by_cases hf0 : fm = 0
                    · have hfe : ((fm : Int) == 0) = true := by simp; omega
                      have HEQ : Hid ((Value.bool false) = .bool (decide (fm ≠ 0 ∧ fm ∈ C))) := Mm.hid (by rw [decide_eq_false (fun h => h.1 hf0)])
                      subst hf0
                      go_wp2_with fail
                      go_meet
                      case rel => exact ⟨HEQ.out, rfl⟩
                    · have hfe : ((fm : Int) == 0) = false := by simp; omega
                      obtain ⟨qi, ci, ei, hii⟩ := HO8.out.nin
                      injection ei with ei1 ei2 ei3
                      subst ei1
                      have HIC := Mm.hid hii
                      have hhk := hask_any (C.map (fun n : Nat => (n : Int))) qc Lc cc (fm : Int) w8 HIC (Mm.hid (by rw [List.length_map]; exact HLC.out)) (by have := HLC.out; have := HC.out.2.1; omega)
                      have HHK := Mm.hid hhk
                      have HEQ : Hid ((Value.bool (decide ((fm : Int) ∈ C.map (fun n : Nat => (n : Int))))) = .bool (decide (fm ≠ 0 ∧ fm ∈ C))) := Mm.hid (by
                        congr 1
                        rw [decide_eq_decide]
                        constructor
                        · intro h
                          obtain ⟨z, hz, e⟩ := List.mem_map.1 h
                          have e' : z = fm := by omega
                          exact ⟨hf0, e' ▸ hz⟩
                        · exact fun h => List.mem_map.2 ⟨fm, h.2, rfl⟩)
                      clear ei2 ei3 hii hhk
                      generalize decide ((fm : Int) ∈ C.map (fun n : Nat => (n : Int))) = bq at HHK HEQ
                      go_wp2_with fail
                      refine HHK.out.mono ?_
                      rintro e w9 ⟨rfl, hw9⟩
                      obtain rfl := hw9.symm
                      go_wp2_with fail
                      go_meet
                      case rel => exact ⟨by rw [show ((fm : Int) != 0) = true from by rw [bne, hfe]; rfl, Bool.true_and]; exact HEQ.out, rfl⟩
                  case rest =>
                    obtain ⟨h119, hwc⟩ := hcut
                    subst h119
                    have hwc' := hwc.symm
                    subst hwc'
                    go_upto_if 119 with fail
                    go_cut [12] from 90 to 159 (fun vc wx => ∃ C', C' = (if fm ≠ 0 ∧ fm ∈ C then C ++ [tm] else C) ∧ Hid (Mm.Own wx h 3 vc (Mm.nts C')) ∧ Hid (∀ g, vc.ownBlock = some g → tag8 g = none) ∧ Hid (Below w8.heap.size w8 wx) ∧ Hid (C'.length ≤ 10000 + (i + 1) ∧ C' ≠ []))
                    case first =>
                      by_cases hfc : fm ≠ 0 ∧ fm ∈ C
                      · rw [decide_eq_true hfc]
                        obtain ⟨qi, ci, ei, hii⟩ := HO8.out.nin
                        injection ei with ei1 ei2 ei3
                        subst ei1
                        have HIC := Mm.hid hii
                        have HF0 := Mm.hid hfc.1
                        have HFC := Mm.hid hfc.2
                        have d1 : w8.cell? ⟨mb, 1, none⟩ = some (.int .i64 (tm : Int)) := Mm.cellOf HX8.out rfl
                        have HSM : Hid (∀ w', Below w8.heap.size w8 w' → w'.cell? ⟨mb, 1, none⟩ = some (.int .i64 (tm : Int))) := Mm.hid (fun w' hb => (Mm.belAt hb _ (Mm.heapLt HX8.out)).trans d1)
                        have HCL8 := Mm.hid HC.out.2.1
                        have hLcb : Lc ≤ 20000 := by have := HLC.out; have := HC.out.2.1; omega
                        clear hfc d1 ei2 ei3 hii
                        go_wp2_with fail
                        refine wp_region_held_drew (S := fun w' => w'.cell? ⟨mb, 1, none⟩ = some (.int .i64 (tm : Int))) (by kernel_rfl) (HSM.out _ (Below.refl _ w8).drew) (fun hH => ?_)
                        refine wpAnyH_take (i := 1) (oi := ?oe1q1) (v := ?ve1q1) ?hie1q1 ?hse1q1 ?hfe1q1 ?hre1q1 ?hQe1q1 (Or.inl ⟨?hwe1q1, ?hye1q1⟩) ?hSe1q1 ?reste1q1
                        case hie1q1 => (simp; rfl)
                        case hse1q1 => kernel_rfl
                        case hfe1q1 => kernel_rfl
                        case hre1q1 => kernel_rfl
                        case hQe1q1 => exact fun _ _ _ h => h
                        case hwe1q1 => rfl
                        case hye1q1 => (intro wq hSq; (try dsimp only at hSq); go_simp; (try with_reducible rfl))
                        case hSe1q1 => assumption
                        simp only [Act.put, List.setIfInBounds_toArray, List.set_cons_zero, List.set_cons_succ]
                        refine wpAnyH_take (i := 3) (oi := ?oe2q3) (v := ?ve2q3) ?hie2q3 ?hse2q3 ?hfe2q3 ?hre2q3 ?hQe2q3 (Or.inl ⟨?hwe2q3, ?hye2q3⟩) ?hSe2q3 ?reste2q3
                        case hie2q3 => (simp; rfl)
                        case hse2q3 => kernel_rfl
                        case hfe2q3 => kernel_rfl
                        case hre2q3 => kernel_rfl
                        case hQe2q3 => exact fun _ _ _ h => h
                        case hwe2q3 => rfl
                        case hye2q3 => (intro wq hSq; (try dsimp only at hSq); go_simp; (try with_reducible rfl))
                        case hSe2q3 => assumption
                        simp only [Act.put, List.setIfInBounds_toArray, List.set_cons_zero, List.set_cons_succ]
                        refine wpAnyH_take (i := 4) (oi := ?oe3q4) (v := ?ve3q4) ?hie3q4 ?hse3q4 ?hfe3q4 ?hre3q4 ?hQe3q4 (Or.inl ⟨?hwe3q4, ?hye3q4⟩) ?hSe3q4 ?reste3q4
                        case hie3q4 => (simp; rfl)
                        case hse3q4 => kernel_rfl
                        case hfe3q4 => kernel_rfl
                        case hre3q4 => kernel_rfl
                        case hQe3q4 => exact fun _ _ _ h => h
                        case hwe3q4 => rfl
                        case hye3q4 => (intro wq hSq; (try dsimp only at hSq); go_simp; (try with_reducible rfl))
                        case hSe3q4 => assumption
                        simp only [Act.put, List.setIfInBounds_toArray, List.set_cons_zero, List.set_cons_succ]
                        refine wpAnyH_ready (rs := [0, 5]) (by kernel_rfl) (by simp) ?_
                        refine AllReadyH.cons (o := ?oe4q) ?he4q (fun K hK => ?re4q) (AllReadyH.cons (o := ?oe5q) ?he5q (fun K hK => ?re5q) AllReadyH.nil)
                        case he4q => (simp; rfl)
                        case he5q => (simp; rfl)
                        case re4q =>
                          go_simp
                          refine hK.out _ _ (HSM.out _ ((Below.refl _ w8).drew.alloc (by simp) _)) (fun hHe6q => ?_)
                          clear hK K
                          refine wpAnyH_ready (rs := [2, 5]) (by kernel_rfl) (by simp) ?_
                          refine AllReadyH.cons (o := ?oe7q) ?he7q (fun K hK => ?re7q) (AllReadyH.cons (o := ?oe8q) ?he8q (fun K hK => ?re8q) AllReadyH.nil)
                          case he7q => (simp; rfl)
                          case he8q => (simp; rfl)
                          case re7q =>
                            have ho0 : (w8.drew.alloc (.cells #[] 3)).ownsRow w8.heap.size 3 1 (.slice (some ⟨w8.heap.size, 0, none⟩) 0 0) 0 [] := World.ownsRow_made w8.drew #[] 0 (show w8.heap.size ≤ w8.drew.heap.size by simp) (Nat.zero_le _) rfl
                            have ho1 := ho0
                            have HO0 := Mm.hid ho1
                            have HI0 : Hid (Mm.IIn (w8.drew.alloc (.cells #[] 3)) qc (C.map (fun n : Nat => (n : Int)))) := Mm.hid (HIC.out.below ((Below.refl _ w8).drew.alloc (by simp) _))
                            clear ho0 ho1
                            have HGR : Hid (Below w8.heap.size w8 (w8.drew.alloc (.cells #[] 3))) := Mm.hid (((Below.refl _ w8).drew.alloc (by simp) _))
                            refine Lf.stepAll rfl _ _ rfl w8.heap.size (w := (w8.drew.alloc (.cells #[] 3))) _ rfl HO0.out qc Lc cc C rfl HLC.out HI0.out (by omega) HGR.out.size (fun e => by have h9 := HFC.out; rw [e] at h9; cases h9) ?_
                            intro v1a w1a hown1 hg1 hl1
                            have HO1a := Mm.hid hown1
                            have HB1a : Hid (Below w8.heap.size w8 w1a) := Mm.hid (HGR.out.grown hg1 HGR.out.size (fun g hg => by have h1 := (Mm.Own.lt HO0.out hg).2; exact h1))
                            clear hown1 hg1 hl1
                            refine hK.out _ _ (HSM.out _ HB1a.out) (fun hHe9q => ?_)
                            clear hK K
                            refine wpAnyH_ready (rs := [5]) (by kernel_rfl) (by simp) ?_
                            refine AllReadyH.cons (o := ?oe10q) ?he10q (fun K hK => ?re10q) AllReadyH.nil
                            case he10q => (simp; rfl)
                            case re10q =>
                              go_simp
                              refine hK.out _ _ (HSM.out _ (HB1a.out.alloc HB1a.out.size _)) (fun hHe11q => ?_)
                              clear hK K
                              refine wpAnyH_ready (rs := [6]) (by kernel_rfl) (by simp) ?_
                              refine AllReadyH.cons (o := ?oe12q) ?he12q (fun K hK => ?re12q) AllReadyH.nil
                              case he12q => (simp; rfl)
                              case re12q =>
                                have HOX : Hid (Mm.Own (w1a.alloc (.cells #[.int .i64 (tm : Int)] 3)) w8.heap.size 3 v1a (Mm.nts C)) := Mm.hid (HO1a.out.below ((Below.refl _ _).alloc (Nat.le_refl _) _))
                                have HGR2 : Hid (Below w8.heap.size w8 (w1a.alloc (.cells #[.int .i64 (tm : Int)] 3))) := Mm.hid (HB1a.out.alloc HB1a.out.size _)
                                refine Mm.stepI rfl _ _ rfl w8.heap.size (w := (w1a.alloc (.cells #[.int .i64 (tm : Int)] 3))) v1a (tm : Int) (Mm.nts C) rfl HOX.out w1a.heap.size rfl (Mm.cellOf (Mm.newAt w1a _ rfl) rfl) (by rw [Mm.nts_len, HLC.out]; omega) HGR2.out.size ?_
                                intro v2a w2a hown2 hg2 hl2
                                have HO2a := Mm.hid hown2
                                have HB2a : Hid (Below w8.heap.size w8 w2a) := Mm.hid (HGR2.out.grown hg2 HGR2.out.size (fun g hg => (HOX.out.lt hg).2))
                                clear hown2 hg2 hl2
                                refine hK.out _ _ (HSM.out _ HB2a.out) (fun hHe13q => ?_)
                                clear hK K
                                refine wpAnyH_take (i := 7) (oi := ?oe14q7) (v := ?ve14q7) ?hie14q7 ?hse14q7 ?hfe14q7 ?hre14q7 ?hQe14q7 (Or.inl ⟨?hwe14q7, ?hye14q7⟩) ?hSe14q7 ?reste14q7
                                case hie14q7 => (simp; rfl)
                                case hse14q7 => kernel_rfl
                                case hfe14q7 => kernel_rfl
                                case hre14q7 => kernel_rfl
                                case hQe14q7 => exact fun _ _ _ h => h
                                case hwe14q7 => rfl
                                case hye14q7 => (intro wq hSq; (try dsimp only at hSq); go_simp; (try with_reducible rfl))
                                case hSe14q7 => assumption
                                simp only [Act.put, List.setIfInBounds_toArray, List.set_cons_zero, List.set_cons_succ]
                                refine wpAnyH_done (by kernel_rfl) ?_ _
                                go_wp2_with fail
                                go_meet
                                case rel => exact ⟨C ++ [tm], by rw [if_pos ⟨HF0.out, HFC.out⟩], Mm.hid (by rw [Mm.nts_app]; exact HO2a.out.base (Nat.le_trans HHW.out HSZ.out)), Mm.hid (fun g hg => HTOP.out g (Nat.le_trans HSZ.out (HO2a.out.lt hg).2)), HB2a, Mm.hid ⟨by rw [List.length_append, List.length_singleton]; have := HCL8.out; omega, by simp⟩⟩
                          case re8q =>
                            go_simp
                            refine hK.out _ _ (HSM.out _ (((Below.refl _ w8).drew.alloc (by simp) _).alloc (by simp) _)) (fun hHe15q => ?_)
                            clear hK K
                            refine wpAnyH_ready (rs := [2]) (by kernel_rfl) (by simp) ?_
                            refine AllReadyH.cons (o := ?oe16q) ?he16q (fun K hK => ?re16q) AllReadyH.nil
                            case he16q => (simp; rfl)
                            case re16q =>
                              have ho0 : (w8.drew.alloc (.cells #[] 3)).ownsRow w8.heap.size 3 1 (.slice (some ⟨w8.heap.size, 0, none⟩) 0 0) 0 [] := World.ownsRow_made w8.drew #[] 0 (show w8.heap.size ≤ w8.drew.heap.size by simp) (Nat.zero_le _) rfl
                              have ho1 : ((w8.drew.alloc (.cells #[] 3)).alloc (.cells #[.int .i64 (tm : Int)] 3)).ownsRow w8.heap.size 3 1 (.slice (some ⟨w8.heap.size, 0, none⟩) 0 0) 0 [] := Mm.Own.below ho0 ((Below.refl _ _).alloc (Nat.le_refl _) _)
                              have HO0 := Mm.hid ho1
                              have HI0 : Hid (Mm.IIn ((w8.drew.alloc (.cells #[] 3)).alloc (.cells #[.int .i64 (tm : Int)] 3)) qc (C.map (fun n : Nat => (n : Int)))) := Mm.hid (HIC.out.below (((Below.refl _ w8).drew.alloc (by simp) _).alloc (by simp) _))
                              clear ho0 ho1
                              have HGR : Hid (Below w8.heap.size w8 ((w8.drew.alloc (.cells #[] 3)).alloc (.cells #[.int .i64 (tm : Int)] 3))) := Mm.hid ((((Below.refl _ w8).drew.alloc (by simp) _).alloc (by simp) _))
                              refine Lf.stepAll rfl _ _ rfl w8.heap.size (w := ((w8.drew.alloc (.cells #[] 3)).alloc (.cells #[.int .i64 (tm : Int)] 3))) _ rfl HO0.out qc Lc cc C rfl HLC.out HI0.out (by omega) HGR.out.size (fun e => by have h9 := HFC.out; rw [e] at h9; cases h9) ?_
                              intro v1a w1a hown1 hg1 hl1
                              have HO1a := Mm.hid hown1
                              have HB1a : Hid (Below w8.heap.size w8 w1a) := Mm.hid (HGR.out.grown hg1 HGR.out.size (fun g hg => by have h1 := (Mm.Own.lt HO0.out hg).2; exact h1))
                              have HT1 : Hid (w1a.heap[(w8.heap.size + 1)]? = some (.cells #[.int .i64 (tm : Int)] 3 (0, 0))) := Mm.hid ((hg1.block (w8.heap.size + 1) (by simp; try omega) (fun e => absurd (Option.some.inj e) (by first | exact Nat.succ_ne_self _ | exact (Nat.succ_ne_self _).symm))).trans (Mm.newAt _ _ (by simp)))
                              clear hown1 hg1 hl1
                              refine hK.out _ _ (HSM.out _ HB1a.out) (fun hHe17q => ?_)
                              clear hK K
                              refine wpAnyH_ready (rs := [6]) (by kernel_rfl) (by simp) ?_
                              refine AllReadyH.cons (o := ?oe18q) ?he18q (fun K hK => ?re18q) AllReadyH.nil
                              case he18q => (simp; rfl)
                              case re18q =>
                                have HOX : Hid (Mm.Own w1a w8.heap.size 3 v1a (Mm.nts C)) := Mm.hid HO1a.out
                                have HGR2 : Hid (Below w8.heap.size w8 w1a) := Mm.hid HB1a.out
                                refine Mm.stepI rfl _ _ rfl w8.heap.size (w := w1a) v1a (tm : Int) (Mm.nts C) rfl HOX.out (w8.heap.size + 1) rfl (Mm.cellOf HT1.out rfl) (by rw [Mm.nts_len, HLC.out]; omega) HGR2.out.size ?_
                                intro v2a w2a hown2 hg2 hl2
                                have HO2a := Mm.hid hown2
                                have HB2a : Hid (Below w8.heap.size w8 w2a) := Mm.hid (HGR2.out.grown hg2 HGR2.out.size (fun g hg => (HOX.out.lt hg).2))
                                clear hown2 hg2 hl2
                                refine hK.out _ _ (HSM.out _ HB2a.out) (fun hHe19q => ?_)
                                clear hK K
                                refine wpAnyH_take (i := 7) (oi := ?oe20q7) (v := ?ve20q7) ?hie20q7 ?hse20q7 ?hfe20q7 ?hre20q7 ?hQe20q7 (Or.inl ⟨?hwe20q7, ?hye20q7⟩) ?hSe20q7 ?reste20q7
                                case hie20q7 => (simp; rfl)
                                case hse20q7 => kernel_rfl
                                case hfe20q7 => kernel_rfl
                                case hre20q7 => kernel_rfl
                                case hQe20q7 => exact fun _ _ _ h => h
                                case hwe20q7 => rfl
                                case hye20q7 => (intro wq hSq; (try dsimp only at hSq); go_simp; (try with_reducible rfl))
                                case hSe20q7 => assumption
                                simp only [Act.put, List.setIfInBounds_toArray, List.set_cons_zero, List.set_cons_succ]
                                refine wpAnyH_done (by kernel_rfl) ?_ _
                                go_wp2_with fail
                                go_meet
                                case rel => exact ⟨C ++ [tm], by rw [if_pos ⟨HF0.out, HFC.out⟩], Mm.hid (by rw [Mm.nts_app]; exact HO2a.out.base (Nat.le_trans HHW.out HSZ.out)), Mm.hid (fun g hg => HTOP.out g (Nat.le_trans HSZ.out (HO2a.out.lt hg).2)), HB2a, Mm.hid ⟨by rw [List.length_append, List.length_singleton]; have := HCL8.out; omega, by simp⟩⟩
                        case re5q =>
                          go_simp
                          refine hK.out _ _ (HSM.out _ ((Below.refl _ w8).drew.alloc (by simp) _)) (fun hHe21q => ?_)
                          clear hK K
                          refine wpAnyH_ready (rs := [0]) (by kernel_rfl) (by simp) ?_
                          refine AllReadyH.cons (o := ?oe22q) ?he22q (fun K hK => ?re22q) AllReadyH.nil
                          case he22q => (simp; rfl)
                          case re22q =>
                            go_simp
                            refine hK.out _ _ (HSM.out _ (((Below.refl _ w8).drew.alloc (by simp) _).alloc (by simp) _)) (fun hHe23q => ?_)
                            clear hK K
                            refine wpAnyH_ready (rs := [2]) (by kernel_rfl) (by simp) ?_
                            refine AllReadyH.cons (o := ?oe24q) ?he24q (fun K hK => ?re24q) AllReadyH.nil
                            case he24q => (simp; rfl)
                            case re24q =>
                              have ho0 : ((w8.drew.alloc (.cells #[.int .i64 (tm : Int)] 3)).alloc (.cells #[] 3)).ownsRow w8.heap.size 3 1 (.slice (some ⟨(w8.heap.size + 1), 0, none⟩) 0 0) 0 [] := by
                                have h0 := World.ownsRow_made (base := w8.heap.size) (e := 3) (size := 1) (w8.drew.alloc (.cells #[.int .i64 (tm : Int)] 3)) #[] 0 (show w8.heap.size ≤ (w8.drew.alloc (.cells #[.int .i64 (tm : Int)] 3)).heap.size by simp) (Nat.zero_le _) rfl
                                rw [World.size_alloc] at h0
                                exact h0
                              have ho1 := ho0
                              have HO0 := Mm.hid ho1
                              have HI0 : Hid (Mm.IIn ((w8.drew.alloc (.cells #[.int .i64 (tm : Int)] 3)).alloc (.cells #[] 3)) qc (C.map (fun n : Nat => (n : Int)))) := Mm.hid (HIC.out.below (((Below.refl _ w8).drew.alloc (by simp) _).alloc (by simp) _))
                              clear ho0 ho1
                              have HGR : Hid (Below w8.heap.size w8 ((w8.drew.alloc (.cells #[.int .i64 (tm : Int)] 3)).alloc (.cells #[] 3))) := Mm.hid ((((Below.refl _ w8).drew.alloc (by simp) _).alloc (by simp) _))
                              refine Lf.stepAll rfl _ _ rfl w8.heap.size (w := ((w8.drew.alloc (.cells #[.int .i64 (tm : Int)] 3)).alloc (.cells #[] 3))) _ rfl HO0.out qc Lc cc C rfl HLC.out HI0.out (by omega) HGR.out.size (fun e => by have h9 := HFC.out; rw [e] at h9; cases h9) ?_
                              intro v1a w1a hown1 hg1 hl1
                              have HO1a := Mm.hid hown1
                              have HB1a : Hid (Below w8.heap.size w8 w1a) := Mm.hid (HGR.out.grown hg1 HGR.out.size (fun g hg => by have h1 := (Mm.Own.lt HO0.out hg).2; exact h1))
                              have HT1 : Hid (w1a.heap[w8.heap.size]? = some (.cells #[.int .i64 (tm : Int)] 3 (0, 0))) := Mm.hid ((hg1.block w8.heap.size (by simp; try omega) (fun e => absurd (Option.some.inj e) (by first | exact Nat.succ_ne_self _ | exact (Nat.succ_ne_self _).symm))).trans ((Mm.oldAt _ _ (by simp; try omega)).trans (Mm.newAt _ _ (by simp))))
                              clear hown1 hg1 hl1
                              refine hK.out _ _ (HSM.out _ HB1a.out) (fun hHe25q => ?_)
                              clear hK K
                              refine wpAnyH_ready (rs := [6]) (by kernel_rfl) (by simp) ?_
                              refine AllReadyH.cons (o := ?oe26q) ?he26q (fun K hK => ?re26q) AllReadyH.nil
                              case he26q => (simp; rfl)
                              case re26q =>
                                have HOX : Hid (Mm.Own w1a w8.heap.size 3 v1a (Mm.nts C)) := Mm.hid HO1a.out
                                have HGR2 : Hid (Below w8.heap.size w8 w1a) := Mm.hid HB1a.out
                                refine Mm.stepI rfl _ _ rfl w8.heap.size (w := w1a) v1a (tm : Int) (Mm.nts C) rfl HOX.out w8.heap.size rfl (Mm.cellOf HT1.out rfl) (by rw [Mm.nts_len, HLC.out]; omega) HGR2.out.size ?_
                                intro v2a w2a hown2 hg2 hl2
                                have HO2a := Mm.hid hown2
                                have HB2a : Hid (Below w8.heap.size w8 w2a) := Mm.hid (HGR2.out.grown hg2 HGR2.out.size (fun g hg => (HOX.out.lt hg).2))
                                clear hown2 hg2 hl2
                                refine hK.out _ _ (HSM.out _ HB2a.out) (fun hHe27q => ?_)
                                clear hK K
                                refine wpAnyH_take (i := 7) (oi := ?oe28q7) (v := ?ve28q7) ?hie28q7 ?hse28q7 ?hfe28q7 ?hre28q7 ?hQe28q7 (Or.inl ⟨?hwe28q7, ?hye28q7⟩) ?hSe28q7 ?reste28q7
                                case hie28q7 => (simp; rfl)
                                case hse28q7 => kernel_rfl
                                case hfe28q7 => kernel_rfl
                                case hre28q7 => kernel_rfl
                                case hQe28q7 => exact fun _ _ _ h => h
                                case hwe28q7 => rfl
                                case hye28q7 => (intro wq hSq; (try dsimp only at hSq); go_simp; (try with_reducible rfl))
                                case hSe28q7 => assumption
                                simp only [Act.put, List.setIfInBounds_toArray, List.set_cons_zero, List.set_cons_succ]
                                refine wpAnyH_done (by kernel_rfl) ?_ _
                                go_wp2_with fail
                                go_meet
                                case rel => exact ⟨C ++ [tm], by rw [if_pos ⟨HF0.out, HFC.out⟩], Mm.hid (by rw [Mm.nts_app]; exact HO2a.out.base (Nat.le_trans HHW.out HSZ.out)), Mm.hid (fun g hg => HTOP.out g (Nat.le_trans HSZ.out (HO2a.out.lt hg).2)), HB2a, Mm.hid ⟨by rw [List.length_append, List.length_singleton]; have := HCL8.out; omega, by simp⟩⟩
                      · rw [decide_eq_false hfc]
                        have HEQ : Hid (C = (if fm ≠ 0 ∧ fm ∈ C then C ++ [tm] else C)) := Mm.hid (by rw [if_neg hfc])
                        clear hfc
                        go_wp2_with fail
                        go_meet
                        case rel => exact ⟨C, HEQ.out, HO8, HT7, Mm.hid (Below.refl _ _), Mm.hid ⟨by have := HC.out.2.1; omega, HC.out.2.2⟩⟩
                    case rest =>
                      obtain ⟨C', hC', HO9, HT9, HB9, HL9⟩ := hcut
                      have hcv9 : Lf.Cov s8 key ⟨#[]⟩ C' := by rw [hC']; exact HCV8.out
                      have HCV9 := Mm.hid hcv9
                      have HQ9 : Hid (Lf.Lq h wc tag8 p s8 (k + (i + 1))) := Mm.hid (HQ8.out.below HB9.out)
                      have HBC : Hid (Below h w4 wc) := Mm.hid (HB8.out.trans (HB9.out.mono (Nat.le_trans HHW.out HSZ.out)))
                      clear hC' hcv9
                      obtain ⟨q9, c9, ev9, hi9⟩ := HO9.out.nin
                      obtain ⟨L9, hL9⟩ : ∃ Lc, Lc = C'.length := ⟨_, rfl⟩
                      rw [List.length_map, ← hL9] at ev9
                      subst ev9
                      have HI9 := Mm.hid hi9
                      have HL9' : Hid (C'.length = L9) := Mm.hid hL9.symm
                      clear hL9 hi9
                      have hx9 : wc.heap[W.heap.size]? = some (.cells #[.int .i64 kd, .string key, .string ⟨#[]⟩] 33 (0, 0)) := (HBC.out.block _ HHL.out.1).trans HX2.out
                      have z1 : wc.cell? ⟨W.heap.size, 1, none⟩ = some (.string key) := Mm.cellOf hx9 rfl
                      have z2 : wc.cell? ⟨W.heap.size, 2, none⟩ = some (.string ⟨#[]⟩) := Mm.cellOf hx9 rfl
                      have z3 : wc.cell? ⟨bb, o + i * 3, none⟩ = some (.int .i64 yk) := (Mm.belAt (HB2.out.trans (HBC.out.mono (Nat.le_of_lt HHL.out.1))) _ HYL.out.1).trans HYL.out.2
                      clear hx9
                      go_upto_region 21 with fail
                      go_cut [17, 159] from 90 to 159 (fun v17 vt wx => vt = .bool false ∧ wx = wc)
                      case first =>
                        go_wp2_with fail
                        · go_meet
                          case rel => exact ⟨by first | rfl | simp [*], rfl⟩
                        · have hmem : ln ∈ C' := by
                            have hk0 : yk = 0 := by assumption
                            have he0 : er = 0 := by assumption
                            have hr := HR.out
                            rw [hk0, he0] at hr
                            have h1 := HCV9.out ykey (eq_false_of_ne_true (by assumption)) (Or.inl rfl)
                            rw [Lf.do_told hr] at h1
                            exact h1
                          have hhk := hask_any (C'.map (fun n : Nat => (n : Int))) q9 L9 c9 (ln : Int) wc HI9 (Mm.hid (by rw [List.length_map]; exact HL9'.out)) (by have := HL9'.out; have := HL9.out.1; omega)
                          rw [decide_eq_true (show (ln : Int) ∈ C'.map (fun n : Nat => (n : Int)) from List.mem_map.2 ⟨ln, hmem, rfl⟩)] at hhk
                          refine hhk.mono ?_
                          rintro e w9 ⟨rfl, hw9⟩
                          obtain rfl := hw9.symm
                          go_wp2_with fail
                          go_meet
                          case rel => exact ⟨by first | rfl | simp [*], rfl⟩
                        · go_meet
                          case rel => exact ⟨by first | rfl | simp [*], rfl⟩
                        · go_meet
                          case rel => exact ⟨by first | rfl | simp [*], rfl⟩
                      case rest =>
                        obtain ⟨h159, hwc⟩ := hcut
                        subst h159
                        have hwc' := hwc.symm
                        subst hwc'
                        go_wp2_with fail
                        exact ⟨⟨i + 1, C', by omega, by go_num, Mm.hid ⟨s8, tag8, HQ9.out, HCV9.out, HT9.out⟩, HO9, Mm.hid ⟨HBC.out, HL9.out⟩⟩, by simp [RowKit.intOf]; omega⟩
                · have he : i = l2 := by omega
                  subst he
                  have HBE := Mm.hid HC.out.1
                  go_wp2_with fail
                  refine (wakes_any _).mono ?_
                  rintro e w7 ⟨rfl, hb7⟩
                  have HB7 : Hid (Below W.heap.size W w7) := Mm.hid ((HB2.out.trans (HBE.out.mono (Nat.le_of_lt HHL.out.1))).trans (hb7.mono (Nat.le_trans HB2.out.size HBE.out.size)))
                  clear hb7
                  go_wp2_with fail
                  go_ret
                  exact ⟨rfl, HB7.out⟩
            · have e0 : tto.toList.isEmpty = false := Lf.ne_emp hto
              have HTO := Mm.hid hto
              have hx6 : w6.heap[W.heap.size]? = some (.cells #[.int .i64 kd, .string key, .string tto] 33 (0, 0)) := (HBW6.out.block _ HHL.out.1).trans HX2.out
              have y1 : w6.cell? ⟨W.heap.size, 1, none⟩ = some (.string key) := Mm.cellOf hx6 rfl
              have y2 : w6.cell? ⟨W.heap.size, 2, none⟩ = some (.string tto) := Mm.cellOf hx6 rfl
              clear hx6 hto
              cases hkt : Lf.lt key tto
              · have ee : (Op.bytesLess tto.toList key.toList || tto.toList == key.toList) = true := by
                  cases h : Op.bytesLess tto.toList key.toList with
                  | true => rfl
                  | false => rw [Lf.lt_tri h hkt]; simp
                have e9 : Lf.spanL s key tto = [] := by unfold Lf.spanL; rw [if_pos ⟨HTO.out, hkt⟩]
                obtain ⟨q2, cq2, ev2, _⟩ := hT.o2.shape
                rw [e9] at ev2
                have ev3 : v2 = .slice q2 0 cq2 := ev2
                subst ev3
                clear hT ev2 e9
                go_wp2_with fail
                refine (wakes_any _).mono ?_
                rintro e w7 ⟨rfl, hb7⟩
                have HB7 : Hid (Below W.heap.size W w7) := Mm.hid ((HB2.out.trans (HBW6.out.mono (Nat.le_of_lt HHL.out.1))).trans (hb7.mono (Nat.le_trans HB2.out.size HBW6.out.size)))
                clear hb7
                go_wp2_with fail
                go_ret
                exact ⟨rfl, HB7.out⟩
              · have ee : (Op.bytesLess tto.toList key.toList || tto.toList == key.toList) = false := by
                  rw [show Op.bytesLess tto.toList key.toList = false from Lf.lt_as hkt, Lf.eqB, decide_eq_false (fun e => Lf.lt_ne hkt e.symm)]; rfl
                have HKT := Mm.hid hkt
                clear hkt
                have hcov : Lf.Cov s key tto (Lf.spanL s key tto) := Lf.cov_start HQ.out.2.1 (Or.inr HKT.out)
                have hne : Lf.spanL s key tto ≠ [] := fun e => by
                  have h1 := hcov key (Lf.lt_irr _) (Or.inr HKT.out)
                  rw [e] at h1; cases h1
                obtain ⟨q2, cq2, ev2, _⟩ := hT.o2.shape
                obtain ⟨Lc2, hLc2⟩ : ∃ Lc, Lc = (Mm.nts (Lf.spanL s key tto)).length := ⟨_, rfl⟩
                rw [← hLc2] at ev2
                subst ev2
                have hl0 : ((Lc2 : Int) == 0) = false := by
                  have : 0 < (Lf.spanL s key tto).length := List.length_pos_iff.2 hne
                  rw [Mm.nts_len] at hLc2
                  simp; omega
                have HQ6 : Hid (∃ sx tg, Lf.Lq h w6 tg p sx (k + 0) ∧ Lf.Cov sx key tto (Lf.spanL s key tto) ∧ (∀ g, (Value.slice q2 Lc2 cq2).ownBlock = some g → tg g = none)) := Mm.hid ⟨s, tag, HQ.out.below hT.bel, hcov, fun g hg => HQ.out.top g (hT.o2.lt hg).2⟩
                have HO6 := Mm.hid (hT.o2.base HHR.out)
                have hx6 : w6.heap[W.heap.size]? = some (.cells #[.int .i64 kd, .string key, .string tto] 33 (0, 0)) := (HBW6.out.block _ HHL.out.1).trans HX2.out
                have x1 : w6.cell? ⟨W.heap.size, 1, none⟩ = some (.string key) := Mm.cellOf hx6 rfl
                have x2 : w6.cell? ⟨W.heap.size, 2, none⟩ = some (.string tto) := Mm.cellOf hx6 rfl
                have HC6 : Hid (Below h w4 w6 ∧ (Lf.spanL s key tto).length ≤ 10000 + 0 ∧ Lf.spanL s key tto ≠ []) := Mm.hid ⟨HBW6.out, HCL.out, hne⟩
                clear hcov hne hLc2 hT hx6
                go_wp2_with fail
                clear x1 x2
                go_loopw [12, 13] (fun vc vi wr => ∃ (i : Nat) (C : List Nat), i ≤ l2 ∧ vi = .int .i64 (i : Int) ∧ Hid (∃ s tag, Lf.Lq h wr tag p s (k + i) ∧ Lf.Cov s key tto C ∧ (∀ g, vc.ownBlock = some g → tag g = none)) ∧ Hid (Mm.Own wr h 3 vc (Mm.nts C)) ∧ Hid (Below h w4 wr ∧ C.length ≤ 10000 + i ∧ C ≠ [])) (fun _ vi _ => l2 - (RowKit.intOf vi).toNat)
                case atStart => exact ⟨0, _, Nat.zero_le _, rfl, HQ6, HO6, HC6⟩
                case round =>
                  clear HQ6 HO6 HC6 HBW6
                  obtain ⟨i, C, hi, rfl, HL, HO, HC⟩ := hrel
                  rename World => wr
                  by_cases hlt : i < l2
                  · obtain ⟨y, hy⟩ : ∃ y, zs2[i]? = some y := ⟨zs2[i]'(by rw [HZ2.out.len]; exact hlt), List.getElem?_eq_getElem _⟩
                    obtain ⟨bb, o, rfl, hbl, d0, d1, d2⟩ := HZ2.out.at_ i y hy
                    obtain ⟨s7, tag7, hq, hcv, htg⟩ := HL.out
                    have hbW : Below W.heap.size W wr := HB2.out.trans (HC.out.1.mono (Nat.le_of_lt HHL.out.1))
                    obtain ⟨yk, ykey, yto⟩ := y
                    have e0 : wr.cell? ⟨bb, o + i * 3, none⟩ = some (.int .i64 yk) := (Mm.belAt hbW _ hbl).trans d0
                    have e1 : wr.cell? ⟨bb, o + i * 3 + 1, none⟩ = some (.string ykey) := (Mm.belAt hbW _ hbl).trans d1
                    have e2 : wr.cell? ⟨bb, o + i * 3 + 2, none⟩ = some (.string yto) := (Mm.belAt hbW _ hbl).trans d2
                    have g1 : (0 : Int) ≤ (i : Int) := by omega
                    have g2 : (i : Int) < (l2 : Int) := by omega
                    have hhw : h ≤ wr.heap.size := Nat.le_trans HHL.out.2 HC.out.1.size
                    have HDO := Mm.hid (do_any (Mm.hid hq) (by omega) hhw yk ykey yto)
                    have HQX := Mm.hid hq
                    have HCVX := Mm.hid hcv
                    have HTGX := Mm.hid htg
                    have HHWX := Mm.hid hhw
                    have HYL := Mm.hid (And.intro hbl d0)
                    clear hy d0 d1 d2 hq hcv htg HL hbW hhw
                    obtain ⟨qc, cc, evc, _⟩ := HO.out.shape
                    obtain ⟨Lc, hLc⟩ : ∃ Lc, Lc = (Mm.nts C).length := ⟨_, rfl⟩
                    rw [← hLc] at evc
                    subst evc
                    have HLC : Hid (C.length = Lc) := Mm.hid (by rw [hLc, Mm.nts_len])
                    clear hLc
                    go_wp2_with fail
                    refine HDO.out.mono ?_
                    rintro e w7 ⟨s8, ln, fm, tm, er, rfl, hr, tag8, hq8, hE⟩
                    have HR := Mm.hid hr
                    have HE8 := Mm.hid hE
                    have HO7 : Hid (Mm.Own w7 h 3 (.slice qc Lc cc) (Mm.nts C)) := Mm.hid (HO.out.keep (fun g hg => hE.block g (HO.out.lt hg).1 (HTGX.out g hg)))
                    have HT7 : Hid (∀ g, (Value.slice qc Lc cc).ownBlock = some g → tag8 g = none) := Mm.hid (fun g hg => hE.tags g (HO.out.lt hg).1 (HTGX.out g hg))
                    have HB7 : Hid (Below h w4 w7) := Mm.hid (HC.out.1.trans (hE.bel HHWX.out HQX.out.bot))
                    have HQ8 : Hid (Lf.Lq h (w7.alloc (.cells #[.int .i64 (fm : Int), .int .i64 (tm : Int)] 35)) tag8 p s8 (k + (i + 1))) := Mm.hid (by rw [← Nat.add_assoc]; exact hq8.below ((Below.refl _ _).alloc (Nat.le_refl _) _))
                    have HTOP : Hid (∀ g, w7.heap.size ≤ g → tag8 g = none) := Mm.hid hq8.top
                    have HCV8 : Hid (Lf.Cov s8 key tto (if fm ≠ 0 ∧ fm ∈ C then C ++ [tm] else C)) := Mm.hid (Lf.cov_step HQX.out.2.1 hr HCVX.out)
                    have HHW : Hid (h ≤ w7.heap.size) := Mm.hid (Nat.le_trans HHL.out.2 HB7.out.size)
                    clear hr hq8 hE e0 e1 e2 HDO
                    go_upto_region 19 with fail
                    have hX8 : (w7.alloc (.cells #[.int .i64 (fm : Int), .int .i64 (tm : Int)] 35)).heap[w7.heap.size]? = some (.cells #[.int .i64 (fm : Int), .int .i64 (tm : Int)] 35 (0, 0)) := Mm.newAt w7 _ rfl
                    have hB8 : Below w7.heap.size w7 (w7.alloc (.cells #[.int .i64 (fm : Int), .int .i64 (tm : Int)] 35)) := (Below.refl _ _).alloc (Nat.le_refl _) _
                    obtain ⟨mb, hmb⟩ : ∃ mb, mb = w7.heap.size := ⟨_, rfl⟩
                    rw [← hmb] at hX8 ⊢
                    generalize w7.alloc (.cells #[.int .i64 (fm : Int), .int .i64 (tm : Int)] 35) = w8 at hX8 hB8 HQ8 ⊢
                    have HO8 : Hid (Mm.Own w8 h 3 (.slice qc Lc cc) (Mm.nts C)) := Mm.hid (HO7.out.below hB8)
                    have HX8 := Mm.hid hX8
                    have HB8 : Hid (Below h w4 w8) := Mm.hid (HB7.out.trans (hB8.mono HHW.out))
                    have HSZ : Hid (w7.heap.size ≤ w8.heap.size) := Mm.hid hB8.size
                    clear hX8 hB8 hmb
                    go_cut [119] from 90 to 159 (fun vt wx => vt = .bool (decide (fm ≠ 0 ∧ fm ∈ C)) ∧ wx = w8)
                    case first =>
                      have d0 : w8.cell? ⟨mb, 0, none⟩ = some (.int .i64 (fm : Int)) := Mm.cellOf HX8.out rfl
                      by_cases hf0 : fm = 0
                      · have hfe : ((fm : Int) == 0) = true := by simp; omega
                        have HEQ : Hid ((Value.bool false) = .bool (decide (fm ≠ 0 ∧ fm ∈ C))) := Mm.hid (by rw [decide_eq_false (fun h => h.1 hf0)])
                        subst hf0
                        go_wp2_with fail
                        go_meet
                        case rel => exact ⟨HEQ.out, rfl⟩
                      · have hfe : ((fm : Int) == 0) = false := by simp; omega
                        obtain ⟨qi, ci, ei, hii⟩ := HO8.out.nin
                        injection ei with ei1 ei2 ei3
                        subst ei1
                        have HIC := Mm.hid hii
                        have hhk := hask_any (C.map (fun n : Nat => (n : Int))) qc Lc cc (fm : Int) w8 HIC (Mm.hid (by rw [List.length_map]; exact HLC.out)) (by have := HLC.out; have := HC.out.2.1; omega)
                        have HHK := Mm.hid hhk
                        have HEQ : Hid ((Value.bool (decide ((fm : Int) ∈ C.map (fun n : Nat => (n : Int))))) = .bool (decide (fm ≠ 0 ∧ fm ∈ C))) := Mm.hid (by
                          congr 1
                          rw [decide_eq_decide]
                          constructor
                          · intro h
                            obtain ⟨z, hz, e⟩ := List.mem_map.1 h
                            have e' : z = fm := by omega
                            exact ⟨hf0, e' ▸ hz⟩
                          · exact fun h => List.mem_map.2 ⟨fm, h.2, rfl⟩)
                        clear ei2 ei3 hii hhk
                        generalize decide ((fm : Int) ∈ C.map (fun n : Nat => (n : Int))) = bq at HHK HEQ
                        go_wp2_with fail
                        refine HHK.out.mono ?_
                        rintro e w9 ⟨rfl, hw9⟩
                        obtain rfl := hw9.symm
                        go_wp2_with fail
                        go_meet
                        case rel => exact ⟨by rw [show ((fm : Int) != 0) = true from by rw [bne, hfe]; rfl, Bool.true_and]; exact HEQ.out, rfl⟩
                    case rest =>
                      obtain ⟨h119, hwc⟩ := hcut
                      subst h119
                      have hwc' := hwc.symm
                      subst hwc'
                      go_upto_if 119 with fail
                      go_cut [12] from 90 to 159 (fun vc wx => ∃ C', C' = (if fm ≠ 0 ∧ fm ∈ C then C ++ [tm] else C) ∧ Hid (Mm.Own wx h 3 vc (Mm.nts C')) ∧ Hid (∀ g, vc.ownBlock = some g → tag8 g = none) ∧ Hid (Below w8.heap.size w8 wx) ∧ Hid (C'.length ≤ 10000 + (i + 1) ∧ C' ≠ []))
                      case first =>
                        by_cases hfc : fm ≠ 0 ∧ fm ∈ C
                        · rw [decide_eq_true hfc]
                          obtain ⟨qi, ci, ei, hii⟩ := HO8.out.nin
                          injection ei with ei1 ei2 ei3
                          subst ei1
                          have HIC := Mm.hid hii
                          have HF0 := Mm.hid hfc.1
                          have HFC := Mm.hid hfc.2
                          have d1 : w8.cell? ⟨mb, 1, none⟩ = some (.int .i64 (tm : Int)) := Mm.cellOf HX8.out rfl
                          have HSM : Hid (∀ w', Below w8.heap.size w8 w' → w'.cell? ⟨mb, 1, none⟩ = some (.int .i64 (tm : Int))) := Mm.hid (fun w' hb => (Mm.belAt hb _ (Mm.heapLt HX8.out)).trans d1)
                          have HCL8 := Mm.hid HC.out.2.1
                          have hLcb : Lc ≤ 20000 := by have := HLC.out; have := HC.out.2.1; omega
                          clear hfc d1 ei2 ei3 hii
                          go_wp2_with fail
                          refine wp_region_held_drew (S := fun w' => w'.cell? ⟨mb, 1, none⟩ = some (.int .i64 (tm : Int))) (by kernel_rfl) (HSM.out _ (Below.refl _ w8).drew) (fun hH => ?_)
                          refine wpAnyH_take (i := 1) (oi := ?ot1q1) (v := ?vt1q1) ?hit1q1 ?hst1q1 ?hft1q1 ?hrt1q1 ?hQt1q1 (Or.inl ⟨?hwt1q1, ?hyt1q1⟩) ?hSt1q1 ?restt1q1
                          case hit1q1 => (simp; rfl)
                          case hst1q1 => kernel_rfl
                          case hft1q1 => kernel_rfl
                          case hrt1q1 => kernel_rfl
                          case hQt1q1 => exact fun _ _ _ h => h
                          case hwt1q1 => rfl
                          case hyt1q1 => (intro wq hSq; (try dsimp only at hSq); go_simp; (try with_reducible rfl))
                          case hSt1q1 => assumption
                          simp only [Act.put, List.setIfInBounds_toArray, List.set_cons_zero, List.set_cons_succ]
                          refine wpAnyH_take (i := 3) (oi := ?ot2q3) (v := ?vt2q3) ?hit2q3 ?hst2q3 ?hft2q3 ?hrt2q3 ?hQt2q3 (Or.inl ⟨?hwt2q3, ?hyt2q3⟩) ?hSt2q3 ?restt2q3
                          case hit2q3 => (simp; rfl)
                          case hst2q3 => kernel_rfl
                          case hft2q3 => kernel_rfl
                          case hrt2q3 => kernel_rfl
                          case hQt2q3 => exact fun _ _ _ h => h
                          case hwt2q3 => rfl
                          case hyt2q3 => (intro wq hSq; (try dsimp only at hSq); go_simp; (try with_reducible rfl))
                          case hSt2q3 => assumption
                          simp only [Act.put, List.setIfInBounds_toArray, List.set_cons_zero, List.set_cons_succ]
                          refine wpAnyH_take (i := 4) (oi := ?ot3q4) (v := ?vt3q4) ?hit3q4 ?hst3q4 ?hft3q4 ?hrt3q4 ?hQt3q4 (Or.inl ⟨?hwt3q4, ?hyt3q4⟩) ?hSt3q4 ?restt3q4
                          case hit3q4 => (simp; rfl)
                          case hst3q4 => kernel_rfl
                          case hft3q4 => kernel_rfl
                          case hrt3q4 => kernel_rfl
                          case hQt3q4 => exact fun _ _ _ h => h
                          case hwt3q4 => rfl
                          case hyt3q4 => (intro wq hSq; (try dsimp only at hSq); go_simp; (try with_reducible rfl))
                          case hSt3q4 => assumption
                          simp only [Act.put, List.setIfInBounds_toArray, List.set_cons_zero, List.set_cons_succ]
                          refine wpAnyH_ready (rs := [0, 5]) (by kernel_rfl) (by simp) ?_
                          refine AllReadyH.cons (o := ?ot4q) ?ht4q (fun K hK => ?rt4q) (AllReadyH.cons (o := ?ot5q) ?ht5q (fun K hK => ?rt5q) AllReadyH.nil)
                          case ht4q => (simp; rfl)
                          case ht5q => (simp; rfl)
                          case rt4q =>
                            go_simp
                            refine hK.out _ _ (HSM.out _ ((Below.refl _ w8).drew.alloc (by simp) _)) (fun hHt6q => ?_)
                            clear hK K
                            refine wpAnyH_ready (rs := [2, 5]) (by kernel_rfl) (by simp) ?_
                            refine AllReadyH.cons (o := ?ot7q) ?ht7q (fun K hK => ?rt7q) (AllReadyH.cons (o := ?ot8q) ?ht8q (fun K hK => ?rt8q) AllReadyH.nil)
                            case ht7q => (simp; rfl)
                            case ht8q => (simp; rfl)
                            case rt7q =>
                              have ho0 : (w8.drew.alloc (.cells #[] 3)).ownsRow w8.heap.size 3 1 (.slice (some ⟨w8.heap.size, 0, none⟩) 0 0) 0 [] := World.ownsRow_made w8.drew #[] 0 (show w8.heap.size ≤ w8.drew.heap.size by simp) (Nat.zero_le _) rfl
                              have ho1 := ho0
                              have HO0 := Mm.hid ho1
                              have HI0 : Hid (Mm.IIn (w8.drew.alloc (.cells #[] 3)) qc (C.map (fun n : Nat => (n : Int)))) := Mm.hid (HIC.out.below ((Below.refl _ w8).drew.alloc (by simp) _))
                              clear ho0 ho1
                              have HGR : Hid (Below w8.heap.size w8 (w8.drew.alloc (.cells #[] 3))) := Mm.hid (((Below.refl _ w8).drew.alloc (by simp) _))
                              refine Lf.stepAll rfl _ _ rfl w8.heap.size (w := (w8.drew.alloc (.cells #[] 3))) _ rfl HO0.out qc Lc cc C rfl HLC.out HI0.out (by omega) HGR.out.size (fun e => by have h9 := HFC.out; rw [e] at h9; cases h9) ?_
                              intro v1a w1a hown1 hg1 hl1
                              have HO1a := Mm.hid hown1
                              have HB1a : Hid (Below w8.heap.size w8 w1a) := Mm.hid (HGR.out.grown hg1 HGR.out.size (fun g hg => by have h1 := (Mm.Own.lt HO0.out hg).2; exact h1))
                              clear hown1 hg1 hl1
                              refine hK.out _ _ (HSM.out _ HB1a.out) (fun hHt9q => ?_)
                              clear hK K
                              refine wpAnyH_ready (rs := [5]) (by kernel_rfl) (by simp) ?_
                              refine AllReadyH.cons (o := ?ot10q) ?ht10q (fun K hK => ?rt10q) AllReadyH.nil
                              case ht10q => (simp; rfl)
                              case rt10q =>
                                go_simp
                                refine hK.out _ _ (HSM.out _ (HB1a.out.alloc HB1a.out.size _)) (fun hHt11q => ?_)
                                clear hK K
                                refine wpAnyH_ready (rs := [6]) (by kernel_rfl) (by simp) ?_
                                refine AllReadyH.cons (o := ?ot12q) ?ht12q (fun K hK => ?rt12q) AllReadyH.nil
                                case ht12q => (simp; rfl)
                                case rt12q =>
                                  have HOX : Hid (Mm.Own (w1a.alloc (.cells #[.int .i64 (tm : Int)] 3)) w8.heap.size 3 v1a (Mm.nts C)) := Mm.hid (HO1a.out.below ((Below.refl _ _).alloc (Nat.le_refl _) _))
                                  have HGR2 : Hid (Below w8.heap.size w8 (w1a.alloc (.cells #[.int .i64 (tm : Int)] 3))) := Mm.hid (HB1a.out.alloc HB1a.out.size _)
                                  refine Mm.stepI rfl _ _ rfl w8.heap.size (w := (w1a.alloc (.cells #[.int .i64 (tm : Int)] 3))) v1a (tm : Int) (Mm.nts C) rfl HOX.out w1a.heap.size rfl (Mm.cellOf (Mm.newAt w1a _ rfl) rfl) (by rw [Mm.nts_len, HLC.out]; omega) HGR2.out.size ?_
                                  intro v2a w2a hown2 hg2 hl2
                                  have HO2a := Mm.hid hown2
                                  have HB2a : Hid (Below w8.heap.size w8 w2a) := Mm.hid (HGR2.out.grown hg2 HGR2.out.size (fun g hg => (HOX.out.lt hg).2))
                                  clear hown2 hg2 hl2
                                  refine hK.out _ _ (HSM.out _ HB2a.out) (fun hHt13q => ?_)
                                  clear hK K
                                  refine wpAnyH_take (i := 7) (oi := ?ot14q7) (v := ?vt14q7) ?hit14q7 ?hst14q7 ?hft14q7 ?hrt14q7 ?hQt14q7 (Or.inl ⟨?hwt14q7, ?hyt14q7⟩) ?hSt14q7 ?restt14q7
                                  case hit14q7 => (simp; rfl)
                                  case hst14q7 => kernel_rfl
                                  case hft14q7 => kernel_rfl
                                  case hrt14q7 => kernel_rfl
                                  case hQt14q7 => exact fun _ _ _ h => h
                                  case hwt14q7 => rfl
                                  case hyt14q7 => (intro wq hSq; (try dsimp only at hSq); go_simp; (try with_reducible rfl))
                                  case hSt14q7 => assumption
                                  simp only [Act.put, List.setIfInBounds_toArray, List.set_cons_zero, List.set_cons_succ]
                                  refine wpAnyH_done (by kernel_rfl) ?_ _
                                  go_wp2_with fail
                                  go_meet
                                  case rel => exact ⟨C ++ [tm], by rw [if_pos ⟨HF0.out, HFC.out⟩], Mm.hid (by rw [Mm.nts_app]; exact HO2a.out.base (Nat.le_trans HHW.out HSZ.out)), Mm.hid (fun g hg => HTOP.out g (Nat.le_trans HSZ.out (HO2a.out.lt hg).2)), HB2a, Mm.hid ⟨by rw [List.length_append, List.length_singleton]; have := HCL8.out; omega, by simp⟩⟩
                            case rt8q =>
                              go_simp
                              refine hK.out _ _ (HSM.out _ (((Below.refl _ w8).drew.alloc (by simp) _).alloc (by simp) _)) (fun hHt15q => ?_)
                              clear hK K
                              refine wpAnyH_ready (rs := [2]) (by kernel_rfl) (by simp) ?_
                              refine AllReadyH.cons (o := ?ot16q) ?ht16q (fun K hK => ?rt16q) AllReadyH.nil
                              case ht16q => (simp; rfl)
                              case rt16q =>
                                have ho0 : (w8.drew.alloc (.cells #[] 3)).ownsRow w8.heap.size 3 1 (.slice (some ⟨w8.heap.size, 0, none⟩) 0 0) 0 [] := World.ownsRow_made w8.drew #[] 0 (show w8.heap.size ≤ w8.drew.heap.size by simp) (Nat.zero_le _) rfl
                                have ho1 : ((w8.drew.alloc (.cells #[] 3)).alloc (.cells #[.int .i64 (tm : Int)] 3)).ownsRow w8.heap.size 3 1 (.slice (some ⟨w8.heap.size, 0, none⟩) 0 0) 0 [] := Mm.Own.below ho0 ((Below.refl _ _).alloc (Nat.le_refl _) _)
                                have HO0 := Mm.hid ho1
                                have HI0 : Hid (Mm.IIn ((w8.drew.alloc (.cells #[] 3)).alloc (.cells #[.int .i64 (tm : Int)] 3)) qc (C.map (fun n : Nat => (n : Int)))) := Mm.hid (HIC.out.below (((Below.refl _ w8).drew.alloc (by simp) _).alloc (by simp) _))
                                clear ho0 ho1
                                have HGR : Hid (Below w8.heap.size w8 ((w8.drew.alloc (.cells #[] 3)).alloc (.cells #[.int .i64 (tm : Int)] 3))) := Mm.hid ((((Below.refl _ w8).drew.alloc (by simp) _).alloc (by simp) _))
                                refine Lf.stepAll rfl _ _ rfl w8.heap.size (w := ((w8.drew.alloc (.cells #[] 3)).alloc (.cells #[.int .i64 (tm : Int)] 3))) _ rfl HO0.out qc Lc cc C rfl HLC.out HI0.out (by omega) HGR.out.size (fun e => by have h9 := HFC.out; rw [e] at h9; cases h9) ?_
                                intro v1a w1a hown1 hg1 hl1
                                have HO1a := Mm.hid hown1
                                have HB1a : Hid (Below w8.heap.size w8 w1a) := Mm.hid (HGR.out.grown hg1 HGR.out.size (fun g hg => by have h1 := (Mm.Own.lt HO0.out hg).2; exact h1))
                                have HT1 : Hid (w1a.heap[(w8.heap.size + 1)]? = some (.cells #[.int .i64 (tm : Int)] 3 (0, 0))) := Mm.hid ((hg1.block (w8.heap.size + 1) (by simp; try omega) (fun e => absurd (Option.some.inj e) (by first | exact Nat.succ_ne_self _ | exact (Nat.succ_ne_self _).symm))).trans (Mm.newAt _ _ (by simp)))
                                clear hown1 hg1 hl1
                                refine hK.out _ _ (HSM.out _ HB1a.out) (fun hHt17q => ?_)
                                clear hK K
                                refine wpAnyH_ready (rs := [6]) (by kernel_rfl) (by simp) ?_
                                refine AllReadyH.cons (o := ?ot18q) ?ht18q (fun K hK => ?rt18q) AllReadyH.nil
                                case ht18q => (simp; rfl)
                                case rt18q =>
                                  have HOX : Hid (Mm.Own w1a w8.heap.size 3 v1a (Mm.nts C)) := Mm.hid HO1a.out
                                  have HGR2 : Hid (Below w8.heap.size w8 w1a) := Mm.hid HB1a.out
                                  refine Mm.stepI rfl _ _ rfl w8.heap.size (w := w1a) v1a (tm : Int) (Mm.nts C) rfl HOX.out (w8.heap.size + 1) rfl (Mm.cellOf HT1.out rfl) (by rw [Mm.nts_len, HLC.out]; omega) HGR2.out.size ?_
                                  intro v2a w2a hown2 hg2 hl2
                                  have HO2a := Mm.hid hown2
                                  have HB2a : Hid (Below w8.heap.size w8 w2a) := Mm.hid (HGR2.out.grown hg2 HGR2.out.size (fun g hg => (HOX.out.lt hg).2))
                                  clear hown2 hg2 hl2
                                  refine hK.out _ _ (HSM.out _ HB2a.out) (fun hHt19q => ?_)
                                  clear hK K
                                  refine wpAnyH_take (i := 7) (oi := ?ot20q7) (v := ?vt20q7) ?hit20q7 ?hst20q7 ?hft20q7 ?hrt20q7 ?hQt20q7 (Or.inl ⟨?hwt20q7, ?hyt20q7⟩) ?hSt20q7 ?restt20q7
                                  case hit20q7 => (simp; rfl)
                                  case hst20q7 => kernel_rfl
                                  case hft20q7 => kernel_rfl
                                  case hrt20q7 => kernel_rfl
                                  case hQt20q7 => exact fun _ _ _ h => h
                                  case hwt20q7 => rfl
                                  case hyt20q7 => (intro wq hSq; (try dsimp only at hSq); go_simp; (try with_reducible rfl))
                                  case hSt20q7 => assumption
                                  simp only [Act.put, List.setIfInBounds_toArray, List.set_cons_zero, List.set_cons_succ]
                                  refine wpAnyH_done (by kernel_rfl) ?_ _
                                  go_wp2_with fail
                                  go_meet
                                  case rel => exact ⟨C ++ [tm], by rw [if_pos ⟨HF0.out, HFC.out⟩], Mm.hid (by rw [Mm.nts_app]; exact HO2a.out.base (Nat.le_trans HHW.out HSZ.out)), Mm.hid (fun g hg => HTOP.out g (Nat.le_trans HSZ.out (HO2a.out.lt hg).2)), HB2a, Mm.hid ⟨by rw [List.length_append, List.length_singleton]; have := HCL8.out; omega, by simp⟩⟩
                          case rt5q =>
                            go_simp
                            refine hK.out _ _ (HSM.out _ ((Below.refl _ w8).drew.alloc (by simp) _)) (fun hHt21q => ?_)
                            clear hK K
                            refine wpAnyH_ready (rs := [0]) (by kernel_rfl) (by simp) ?_
                            refine AllReadyH.cons (o := ?ot22q) ?ht22q (fun K hK => ?rt22q) AllReadyH.nil
                            case ht22q => (simp; rfl)
                            case rt22q =>
                              go_simp
                              refine hK.out _ _ (HSM.out _ (((Below.refl _ w8).drew.alloc (by simp) _).alloc (by simp) _)) (fun hHt23q => ?_)
                              clear hK K
                              refine wpAnyH_ready (rs := [2]) (by kernel_rfl) (by simp) ?_
                              refine AllReadyH.cons (o := ?ot24q) ?ht24q (fun K hK => ?rt24q) AllReadyH.nil
                              case ht24q => (simp; rfl)
                              case rt24q =>
                                have ho0 : ((w8.drew.alloc (.cells #[.int .i64 (tm : Int)] 3)).alloc (.cells #[] 3)).ownsRow w8.heap.size 3 1 (.slice (some ⟨(w8.heap.size + 1), 0, none⟩) 0 0) 0 [] := by
                                  have h0 := World.ownsRow_made (base := w8.heap.size) (e := 3) (size := 1) (w8.drew.alloc (.cells #[.int .i64 (tm : Int)] 3)) #[] 0 (show w8.heap.size ≤ (w8.drew.alloc (.cells #[.int .i64 (tm : Int)] 3)).heap.size by simp) (Nat.zero_le _) rfl
                                  rw [World.size_alloc] at h0
                                  exact h0
                                have ho1 := ho0
                                have HO0 := Mm.hid ho1
                                have HI0 : Hid (Mm.IIn ((w8.drew.alloc (.cells #[.int .i64 (tm : Int)] 3)).alloc (.cells #[] 3)) qc (C.map (fun n : Nat => (n : Int)))) := Mm.hid (HIC.out.below (((Below.refl _ w8).drew.alloc (by simp) _).alloc (by simp) _))
                                clear ho0 ho1
                                have HGR : Hid (Below w8.heap.size w8 ((w8.drew.alloc (.cells #[.int .i64 (tm : Int)] 3)).alloc (.cells #[] 3))) := Mm.hid ((((Below.refl _ w8).drew.alloc (by simp) _).alloc (by simp) _))
                                refine Lf.stepAll rfl _ _ rfl w8.heap.size (w := ((w8.drew.alloc (.cells #[.int .i64 (tm : Int)] 3)).alloc (.cells #[] 3))) _ rfl HO0.out qc Lc cc C rfl HLC.out HI0.out (by omega) HGR.out.size (fun e => by have h9 := HFC.out; rw [e] at h9; cases h9) ?_
                                intro v1a w1a hown1 hg1 hl1
                                have HO1a := Mm.hid hown1
                                have HB1a : Hid (Below w8.heap.size w8 w1a) := Mm.hid (HGR.out.grown hg1 HGR.out.size (fun g hg => by have h1 := (Mm.Own.lt HO0.out hg).2; exact h1))
                                have HT1 : Hid (w1a.heap[w8.heap.size]? = some (.cells #[.int .i64 (tm : Int)] 3 (0, 0))) := Mm.hid ((hg1.block w8.heap.size (by simp; try omega) (fun e => absurd (Option.some.inj e) (by first | exact Nat.succ_ne_self _ | exact (Nat.succ_ne_self _).symm))).trans ((Mm.oldAt _ _ (by simp; try omega)).trans (Mm.newAt _ _ (by simp))))
                                clear hown1 hg1 hl1
                                refine hK.out _ _ (HSM.out _ HB1a.out) (fun hHt25q => ?_)
                                clear hK K
                                refine wpAnyH_ready (rs := [6]) (by kernel_rfl) (by simp) ?_
                                refine AllReadyH.cons (o := ?ot26q) ?ht26q (fun K hK => ?rt26q) AllReadyH.nil
                                case ht26q => (simp; rfl)
                                case rt26q =>
                                  have HOX : Hid (Mm.Own w1a w8.heap.size 3 v1a (Mm.nts C)) := Mm.hid HO1a.out
                                  have HGR2 : Hid (Below w8.heap.size w8 w1a) := Mm.hid HB1a.out
                                  refine Mm.stepI rfl _ _ rfl w8.heap.size (w := w1a) v1a (tm : Int) (Mm.nts C) rfl HOX.out w8.heap.size rfl (Mm.cellOf HT1.out rfl) (by rw [Mm.nts_len, HLC.out]; omega) HGR2.out.size ?_
                                  intro v2a w2a hown2 hg2 hl2
                                  have HO2a := Mm.hid hown2
                                  have HB2a : Hid (Below w8.heap.size w8 w2a) := Mm.hid (HGR2.out.grown hg2 HGR2.out.size (fun g hg => (HOX.out.lt hg).2))
                                  clear hown2 hg2 hl2
                                  refine hK.out _ _ (HSM.out _ HB2a.out) (fun hHt27q => ?_)
                                  clear hK K
                                  refine wpAnyH_take (i := 7) (oi := ?ot28q7) (v := ?vt28q7) ?hit28q7 ?hst28q7 ?hft28q7 ?hrt28q7 ?hQt28q7 (Or.inl ⟨?hwt28q7, ?hyt28q7⟩) ?hSt28q7 ?restt28q7
                                  case hit28q7 => (simp; rfl)
                                  case hst28q7 => kernel_rfl
                                  case hft28q7 => kernel_rfl
                                  case hrt28q7 => kernel_rfl
                                  case hQt28q7 => exact fun _ _ _ h => h
                                  case hwt28q7 => rfl
                                  case hyt28q7 => (intro wq hSq; (try dsimp only at hSq); go_simp; (try with_reducible rfl))
                                  case hSt28q7 => assumption
                                  simp only [Act.put, List.setIfInBounds_toArray, List.set_cons_zero, List.set_cons_succ]
                                  refine wpAnyH_done (by kernel_rfl) ?_ _
                                  go_wp2_with fail
                                  go_meet
                                  case rel => exact ⟨C ++ [tm], by rw [if_pos ⟨HF0.out, HFC.out⟩], Mm.hid (by rw [Mm.nts_app]; exact HO2a.out.base (Nat.le_trans HHW.out HSZ.out)), Mm.hid (fun g hg => HTOP.out g (Nat.le_trans HSZ.out (HO2a.out.lt hg).2)), HB2a, Mm.hid ⟨by rw [List.length_append, List.length_singleton]; have := HCL8.out; omega, by simp⟩⟩
                        · rw [decide_eq_false hfc]
                          have HEQ : Hid (C = (if fm ≠ 0 ∧ fm ∈ C then C ++ [tm] else C)) := Mm.hid (by rw [if_neg hfc])
                          clear hfc
                          go_wp2_with fail
                          go_meet
                          case rel => exact ⟨C, HEQ.out, HO8, HT7, Mm.hid (Below.refl _ _), Mm.hid ⟨by have := HC.out.2.1; omega, HC.out.2.2⟩⟩
                      case rest =>
                        obtain ⟨C', hC', HO9, HT9, HB9, HL9⟩ := hcut
                        have hcv9 : Lf.Cov s8 key tto C' := by rw [hC']; exact HCV8.out
                        have HCV9 := Mm.hid hcv9
                        have HQ9 : Hid (Lf.Lq h wc tag8 p s8 (k + (i + 1))) := Mm.hid (HQ8.out.below HB9.out)
                        have HBC : Hid (Below h w4 wc) := Mm.hid (HB8.out.trans (HB9.out.mono (Nat.le_trans HHW.out HSZ.out)))
                        clear hC' hcv9
                        obtain ⟨q9, c9, ev9, hi9⟩ := HO9.out.nin
                        obtain ⟨L9, hL9⟩ : ∃ Lc, Lc = C'.length := ⟨_, rfl⟩
                        rw [List.length_map, ← hL9] at ev9
                        subst ev9
                        have HI9 := Mm.hid hi9
                        have HL9' : Hid (C'.length = L9) := Mm.hid hL9.symm
                        clear hL9 hi9
                        have hx9 : wc.heap[W.heap.size]? = some (.cells #[.int .i64 kd, .string key, .string tto] 33 (0, 0)) := (HBC.out.block _ HHL.out.1).trans HX2.out
                        have z1 : wc.cell? ⟨W.heap.size, 1, none⟩ = some (.string key) := Mm.cellOf hx9 rfl
                        have z2 : wc.cell? ⟨W.heap.size, 2, none⟩ = some (.string tto) := Mm.cellOf hx9 rfl
                        have z3 : wc.cell? ⟨bb, o + i * 3, none⟩ = some (.int .i64 yk) := (Mm.belAt (HB2.out.trans (HBC.out.mono (Nat.le_of_lt HHL.out.1))) _ HYL.out.1).trans HYL.out.2
                        clear hx9
                        go_upto_region 21 with fail
                        go_cut [17, 159] from 90 to 159 (fun v17 vt wx => vt = .bool false ∧ wx = wc)
                        case first =>
                          go_wp2_with fail
                          · go_meet
                            case rel => exact ⟨by first | rfl | simp [*], rfl⟩
                          · have hmem : ln ∈ C' := by
                              have hk0 : yk = 0 := by assumption
                              have he0 : er = 0 := by assumption
                              have hr := HR.out
                              rw [hk0, he0] at hr
                              have h1 := HCV9.out ykey (eq_false_of_ne_true (by assumption)) (Or.inr (by assumption))
                              rw [Lf.do_told hr] at h1
                              exact h1
                            have hhk := hask_any (C'.map (fun n : Nat => (n : Int))) q9 L9 c9 (ln : Int) wc HI9 (Mm.hid (by rw [List.length_map]; exact HL9'.out)) (by have := HL9'.out; have := HL9.out.1; omega)
                            rw [decide_eq_true (show (ln : Int) ∈ C'.map (fun n : Nat => (n : Int)) from List.mem_map.2 ⟨ln, hmem, rfl⟩)] at hhk
                            refine hhk.mono ?_
                            rintro e w9 ⟨rfl, hw9⟩
                            obtain rfl := hw9.symm
                            go_wp2_with fail
                            go_meet
                            case rel => exact ⟨by first | rfl | simp [*], rfl⟩
                          · go_meet
                            case rel => exact ⟨by first | rfl | simp [*], rfl⟩
                          · go_meet
                            case rel => exact ⟨by first | rfl | simp [*], rfl⟩
                          · go_meet
                            case rel => exact ⟨by first | rfl | simp [*], rfl⟩
                        case rest =>
                          obtain ⟨h159, hwc⟩ := hcut
                          subst h159
                          have hwc' := hwc.symm
                          subst hwc'
                          go_wp2_with fail
                          exact ⟨⟨i + 1, C', by omega, by go_num, Mm.hid ⟨s8, tag8, HQ9.out, HCV9.out, HT9.out⟩, HO9, Mm.hid ⟨HBC.out, HL9.out⟩⟩, by simp [RowKit.intOf]; omega⟩
                  · have he : i = l2 := by omega
                    subst he
                    have HBE := Mm.hid HC.out.1
                    go_wp2_with fail
                    refine (wakes_any _).mono ?_
                    rintro e w7 ⟨rfl, hb7⟩
                    have HB7 : Hid (Below W.heap.size W w7) := Mm.hid ((HB2.out.trans (HBE.out.mono (Nat.le_of_lt HHL.out.1))).trans (hb7.mono (Nat.le_trans HB2.out.size HBE.out.size)))
                    clear hb7
                    go_wp2_with fail
                    go_ret
                    exact ⟨rfl, HB7.out⟩
end Go.Proofs.Ytngflihiailllaa
