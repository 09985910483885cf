/- ClogBeginning: the loop over the transactions, as a declaration of its own. -/
import Derived.Test.YtdbbamjijhaeoaaCc0
namespace Go.Proofs.Ytdbbamjijhaeoaa
open Go.RowKit

def firstLoop : Code → Option Code
  | .loop c => some c
  | .seq a b => match firstLoop a with
    | some c => some c
    | none => firstLoop b
  | .block _ c => firstLoop c
  | .scope c => firstLoop c
  | .cond _ a b => match firstLoop a with
    | some c => some c
    | none => firstLoop b
  | _ => none
noncomputable def bodyA : Code := ((Try.f4.body.bind firstLoop).bind firstLoop).getD .skip

namespace Mm
theorem Own.tch {p : Nat} {w w' : World} {base : Nat} {e : TypeId} {v : Value} {xs : List Value} (h : Own w base e v xs) (hb : Tch p w w') (hp : p < base) : Own w' base e v xs :=
  h.keep (fun g hg => hb.block g (h.lt hg).1 (by have := (h.lt hg).2; omega))
/-- What the law carries: a log, its commits in their order. -/
structure Fit (s : Cg.S) (O : List Nat) (j : Nat) : Prop where
  n : s.n ≤ j
  clk : s.clk ≤ j
  inv : Cg.Inv s
  ord : Cg.Ord s O
end Mm

set_option maxRecDepth 100000 in
set_option maxHeartbeats 20000000 in
theorem tailA (Q0 : Exit → Act → World → Prop) (W5 : World) (p : Nat) (S5 : Cg.S) (O5 : List Nat) (j L : Nat) (qo : Option Addr) (lo co : Nat) (N5 : Int)
    (HJL : Hid (j < L ∧ L ≤ 60)) (HF5 : Hid (Mm.Fit S5 O5 (j + 1))) (HL5 : Hid (Mm.Lg W5 p S5)) (HO5 : Hid (Mm.Own W5 (p + 1) 3 (.slice qo lo co) (Mm.nts O5))) (HLO5 : Hid (lo = (Mm.nts O5).length)) (HN5 : Hid (N5 = (S5.n : Int)))
    (t0 t1 t2 t6 t7 t8 t9 t10 t11 t14 t15 t16 t17 t18 t19 t20 t21 t22 t23 t24 t25 t26 t27 t28 t29 t30 t31 t32 t33 t34 t35 t36 t37 t38 t39 t40 t41 t42 t43 t44 t45 t46 t47 t48 t49 t50 t51 t52 t53 t54 t55 t56 t57 t58 t59 t60 t61 t62 t63 t64 t65 t66 t67 t68 t69 t70 t71 t72 t73 t74 t75 t76 t77 t78 t79 t80 t81 t82 t83 t84 t85 t86 t87 t88 t89 t90 t91 t92 t93 t94 t95 t96 t97 t98 t99 t100 t101 t102 t103 t104 t105 t106 t107 t108 t109 t110 t111 t112 t113 t114 t115 t116 t117 t118 t119 t120 t121 t122 t123 t124 t125 t126 t127 t128 t129 t130 t131 t132 t133 t134 t135 t136 t137 t138 t139 t140 t141 t142 t143 t144 t145 t146 t147 t148 t149 t150 t151 t152 t153 t154 t155 t156 t157 t158 t159 t160 t161 t162 t163 t164 t165 t166 t167 t168 t169 : Value)
    (hexit : ∀ (v2 v12 v13 v14 v15 v16 v77 v78 v79 v80 v81 v82 v83 v84 v85 v86 v87 v88 v89 v90 v91 v92 v93 v94 v95 v96 v97 v98 v99 v100 v101 v102 v103 v104 v105 v106 v107 v108 v109 v110 v111 v112 v113 v114 v115 v116 v117 v118 v119 v120 v121 v122 v123 v124 v125 v126 v127 v128 v129 v130 v131 v132 v133 v134 v135 v136 v137 v138 v139 v140 v141 v142 v143 v144 v145 v146 v147 v148 v149 v150 v151 v152 v153 v154 v155 v156 v157 v158 v159 v160 v161 : Value) (wr : World), Hid (Below W5.heap.size W5 wr) → Q0 (.exit 3) ⟨(List.toArray (t0 :: t1 :: v2 :: Value.pointer (some ⟨p, 0, none⟩) :: Value.slice qo lo co :: Value.int .i64 N5 :: t6 :: t7 :: t8 :: t9 :: t10 :: t11 :: v12 :: v13 :: v14 :: v15 :: v16 :: t17 :: t18 :: t19 :: t20 :: t21 :: t22 :: t23 :: t24 :: t25 :: t26 :: t27 :: t28 :: t29 :: t30 :: t31 :: t32 :: t33 :: t34 :: t35 :: t36 :: t37 :: t38 :: t39 :: t40 :: t41 :: t42 :: t43 :: t44 :: t45 :: t46 :: t47 :: t48 :: t49 :: t50 :: t51 :: t52 :: t53 :: t54 :: t55 :: t56 :: t57 :: t58 :: t59 :: t60 :: t61 :: t62 :: t63 :: t64 :: t65 :: t66 :: t67 :: t68 :: t69 :: t70 :: t71 :: t72 :: t73 :: t74 :: t75 :: t76 :: v77 :: v78 :: v79 :: v80 :: v81 :: v82 :: v83 :: v84 :: v85 :: v86 :: v87 :: v88 :: v89 :: v90 :: v91 :: v92 :: v93 :: v94 :: v95 :: v96 :: v97 :: v98 :: v99 :: v100 :: v101 :: v102 :: v103 :: v104 :: v105 :: v106 :: v107 :: v108 :: v109 :: v110 :: v111 :: v112 :: v113 :: v114 :: v115 :: v116 :: v117 :: v118 :: v119 :: v120 :: v121 :: v122 :: v123 :: v124 :: v125 :: v126 :: v127 :: v128 :: v129 :: v130 :: v131 :: v132 :: v133 :: v134 :: v135 :: v136 :: v137 :: v138 :: v139 :: v140 :: v141 :: v142 :: v143 :: v144 :: v145 :: v146 :: v147 :: v148 :: v149 :: v150 :: v151 :: v152 :: v153 :: v154 :: v155 :: v156 :: v157 :: v158 :: v159 :: v160 :: v161 :: t162 :: t163 :: t164 :: t165 :: t166 :: t167 :: t168 :: t169 :: [])), []⟩ wr) :
    Code.wp Try.prog (Code.loop bodyA) Q0 ⟨(List.toArray (t0 :: t1 :: t2 :: Value.pointer (some ⟨p, 0, none⟩) :: Value.slice qo lo co :: Value.int .i64 N5 :: t6 :: t7 :: t8 :: t9 :: t10 :: t11 :: Value.int .i64 0 :: Value.int .i64 1 :: t14 :: t15 :: t16 :: t17 :: t18 :: t19 :: t20 :: t21 :: t22 :: t23 :: t24 :: t25 :: t26 :: t27 :: t28 :: t29 :: t30 :: t31 :: t32 :: t33 :: t34 :: t35 :: t36 :: t37 :: t38 :: t39 :: t40 :: t41 :: t42 :: t43 :: t44 :: t45 :: t46 :: t47 :: t48 :: t49 :: t50 :: t51 :: t52 :: t53 :: t54 :: t55 :: t56 :: t57 :: t58 :: t59 :: t60 :: t61 :: t62 :: t63 :: t64 :: t65 :: t66 :: t67 :: t68 :: t69 :: t70 :: t71 :: t72 :: t73 :: t74 :: t75 :: t76 :: t77 :: t78 :: t79 :: t80 :: t81 :: t82 :: t83 :: t84 :: t85 :: t86 :: t87 :: t88 :: t89 :: t90 :: t91 :: t92 :: t93 :: t94 :: t95 :: t96 :: t97 :: t98 :: t99 :: t100 :: t101 :: t102 :: t103 :: t104 :: t105 :: t106 :: t107 :: t108 :: t109 :: t110 :: t111 :: t112 :: t113 :: t114 :: t115 :: t116 :: t117 :: t118 :: t119 :: t120 :: t121 :: t122 :: t123 :: t124 :: t125 :: t126 :: t127 :: t128 :: t129 :: t130 :: t131 :: t132 :: t133 :: t134 :: t135 :: t136 :: t137 :: t138 :: t139 :: t140 :: t141 :: t142 :: t143 :: t144 :: t145 :: t146 :: t147 :: t148 :: t149 :: t150 :: t151 :: t152 :: t153 :: t154 :: t155 :: t156 :: t157 :: t158 :: t159 :: t160 :: t161 :: t162 :: t163 :: t164 :: t165 :: t166 :: t167 :: t168 :: t169 :: [])), []⟩ W5 := by
  conv => arg 2; arg 1; whnf
  have HV5 : Hid (Mm.Lv W5 (.pointer (some ⟨p, 0, none⟩)) S5) := Mm.hid (Or.inl ⟨p, rfl, HL5.out⟩)
  have hlo9 : lo ≤ 60 := by have h1 := HLO5.out; rw [Mm.nts_len, HF5.out.ord.len] at h1; have := HF5.out.clk; have := HJL.out; omega
  have hn5 : (S5).n ≤ 200 := by have := HF5.out.n; have := HJL.out; omega
  have HEX := Mm.hid hexit
  clear hexit
  go_loopw [12, 13] (fun vl va wr => ∃ a lst : Nat, 1 ≤ a ∧ a ≤ (S5).n + 1 ∧ va = .int .i64 (a : Int) ∧ vl = .int .i64 (lst : Int) ∧ Hid (∀ a', a ≤ a' → a' ≤ (S5).n → lst ≤ ((S5).f a').snap) ∧ Hid (Below W5.heap.size W5 wr)) (fun _ va _ => (S5).n + 1 - (RowKit.intOf va).toNat)
  case atStart => exact ⟨1, 0, by omega, by omega, rfl, rfl, Mm.hid (fun _ _ _ => Nat.zero_le _), Mm.hid (Below.refl _ _)⟩
  case round =>
    obtain ⟨a, lst, ha1, ha2, rfl, rfl, HLS, HBr⟩ := hrel
    rename World => wr
    by_cases han : a ≤ (S5).n
    · have ga : (a : Int) ≤ N5 := by rw [HN5.out]; omega
      obtain ⟨sp, hsp⟩ : ∃ sp, sp = ((S5).f a).snap := ⟨_, rfl⟩
      have HSP : Hid ((Cg.gt (S5) (a : Int)).snap = sp) := Mm.hid (by rw [Cg.gt_in ha1 han, hsp])
      have HLST : Hid (lst ≤ sp) := Mm.hid (by rw [hsp]; exact HLS.out a (Nat.le_refl _) han)
      have HNX : Hid (∀ a', a + 1 ≤ a' → a' ≤ (S5).n → sp ≤ ((S5).f a').snap) := Mm.hid (fun a' h1 h2 => by rw [hsp]; exact HF5.out.inv.mono a a' ha1 (by omega) h2)
      clear hsp
      go_wp2_with fail
      go_loopw [14, 15] (fun vs vk ws => ∃ k sn : Nat, k ≤ lo ∧ vk = .int .i64 (k : Int) ∧ vs = .int .i64 (sn : Int) ∧ sn ≤ k ∧ sn ≤ sp ∧ Hid (Below W5.heap.size W5 ws)) (fun _ vk _ => lo - (RowKit.intOf vk).toNat)
      case atStart => exact ⟨0, 0, by omega, rfl, rfl, by omega, by omega, HBr⟩
      case round =>
        obtain ⟨k, sn, hk, rfl, rfl, hsk, hss, HBws⟩ := hrel
        rename World => ws
        have HVws := Mm.hid (HV5.out.below HBws.out)
        by_cases hkl : k < lo
        · obtain ⟨y, hy⟩ : ∃ y, (O5)[k]? = some y := ⟨_, List.getElem?_eq_getElem (by have := HLO5.out; rw [Mm.nts_len] at this; omega)⟩
          obtain ⟨g, co', e1, -, cws, -, -⟩ := (HO5.out.below HBws.out).at (Mm.nts_at hy)
          injection e1 with e1 e2 e3
          subst e1
          have gk : (k : Int) < (lo : Int) := by omega
          have gk0 : (0 : Int) ≤ (k : Int) := by omega
          by_cases hya : y = a
          · subst hya
            clear e2 e3 hy
            go_wp2_with fail
            exact ⟨⟨k + 1, sn, by omega, by go_num, rfl, by omega, by omega, HBws⟩, by simp [RowKit.intOf]; omega⟩
          · have gne : ((y : Int) == (a : Int)) = false := by simp; omega
            have hs := HF5.out.ord.sees HF5.out.inv ha1 han hy hya
            rw [HSP.out] at hs
            clear e2 e3 hy hya
            by_cases hks : k < sp
            · have gks : (k : Int) < (sp : Int) := by omega
              have HSE : Hid (Cg.sees (S5) (a : Int) (y : Int) = true) := Mm.hid (by rw [hs, decide_eq_true hks])
              clear hs
              go_wp2_with fail
              refine (sees_any ws _ (S5) (a : Int) (y : Int) HVws hn5).mono ?_
              rintro e w6 ⟨rfl, hb⟩
              rw [HSE.out]
              have HBw6 := Mm.hid (HBws.out.trans (hb.mono HBws.out.size))
              have HVw6 := Mm.hid (HVws.out.below hb)
              have cw6 := (hb.cell (p := ⟨g, k, none⟩) (World.block_lt_of_cell? _ _ cws)).trans cws
              clear hb cws
              go_wp2_with fail
              refine (snapshot_any w6 _ (S5) (a : Int) HVw6 hn5).mono ?_
              rintro e w7 ⟨rfl, hb⟩
              rw [HSP.out]
              have HBw7 := Mm.hid (HBw6.out.trans (hb.mono HBw6.out.size))
              have HVw7 := Mm.hid (HVw6.out.below hb)
              have cw7 := (hb.cell (p := ⟨g, k, none⟩) (World.block_lt_of_cell? _ _ cw6)).trans cw6
              clear hb cw6
              go_wp2_with fail
              refine (sees_any w7 _ (S5) (a : Int) (y : Int) HVw7 hn5).mono ?_
              rintro e w8 ⟨rfl, hb⟩
              rw [HSE.out]
              have HBw8 := Mm.hid (HBw7.out.trans (hb.mono HBw7.out.size))
              have HVw8 := Mm.hid (HVw7.out.below hb)
              have cw8 := (hb.cell (p := ⟨g, k, none⟩) (World.block_lt_of_cell? _ _ cw7)).trans cw7
              clear hb cw7
              go_wp2_with fail
              exact ⟨⟨k + 1, sn + 1, by omega, by go_num, by go_num, by omega, by omega, HBw8⟩, by simp [RowKit.intOf]; omega⟩
            · have gks : ¬ (k : Int) < (sp : Int) := by omega
              have HSE : Hid (Cg.sees (S5) (a : Int) (y : Int) = false) := Mm.hid (by rw [hs, decide_eq_false hks])
              clear hs
              go_wp2_with fail
              refine (sees_any ws _ (S5) (a : Int) (y : Int) HVws hn5).mono ?_
              rintro e w6 ⟨rfl, hb⟩
              rw [HSE.out]
              have HBw6 := Mm.hid (HBws.out.trans (hb.mono HBws.out.size))
              have HVw6 := Mm.hid (HVws.out.below hb)
              have cw6 := (hb.cell (p := ⟨g, k, none⟩) (World.block_lt_of_cell? _ _ cws)).trans cws
              clear hb cws
              go_wp2_with fail
              refine (snapshot_any w6 _ (S5) (a : Int) HVw6 hn5).mono ?_
              rintro e w7 ⟨rfl, hb⟩
              rw [HSP.out]
              have HBw7 := Mm.hid (HBw6.out.trans (hb.mono HBw6.out.size))
              have HVw7 := Mm.hid (HVw6.out.below hb)
              have cw7 := (hb.cell (p := ⟨g, k, none⟩) (World.block_lt_of_cell? _ _ cw6)).trans cw6
              clear hb cw6
              go_wp2_with fail
              refine (sees_any w7 _ (S5) (a : Int) (y : Int) HVw7 hn5).mono ?_
              rintro e w8 ⟨rfl, hb⟩
              rw [HSE.out]
              have HBw8 := Mm.hid (HBw7.out.trans (hb.mono HBw7.out.size))
              have HVw8 := Mm.hid (HVw7.out.below hb)
              have cw8 := (hb.cell (p := ⟨g, k, none⟩) (World.block_lt_of_cell? _ _ cw7)).trans cw7
              clear hb cw7
              go_wp2_with fail
              exact ⟨⟨k + 1, sn, by omega, by go_num, rfl, by omega, by omega, HBw8⟩, by simp [RowKit.intOf]; omega⟩
        · obtain rfl : k = lo := by omega
          have gl : ¬ (sp : Int) < (lst : Int) := by have := HLST.out; omega
          have gs : ¬ (sp : Int) < (sn : Int) := by omega
          go_wp2_with fail
          refine (snapshot_any ws _ (S5) (a : Int) HVws hn5).mono ?_
          rintro e w6 ⟨rfl, hb⟩
          rw [HSP.out]
          have HBw6 := Mm.hid (HBws.out.trans (hb.mono HBws.out.size))
          have HVw6 := Mm.hid (HVws.out.below hb)
          clear hb
          go_wp2_with fail
          refine (snapshot_any w6 _ (S5) (a : Int) HVw6 hn5).mono ?_
          rintro e w7 ⟨rfl, hb⟩
          rw [HSP.out]
          have HBw7 := Mm.hid (HBw6.out.trans (hb.mono HBw6.out.size))
          have HVw7 := Mm.hid (HVw6.out.below hb)
          clear hb
          go_wp2_with fail
          refine (snapshot_any w7 _ (S5) (a : Int) HVw7 hn5).mono ?_
          rintro e w8 ⟨rfl, hb⟩
          rw [HSP.out]
          have HBw8 := Mm.hid (HBw7.out.trans (hb.mono HBw7.out.size))
          have HVw8 := Mm.hid (HVw7.out.below hb)
          clear hb
          clear gl gs HBw6 HBw7 HVw6 HVw7
          go_wp2_with fail
          go_loopw [16] (fun vb wt => ∃ d : Nat, 1 ≤ d ∧ d ≤ (S5).n + 1 ∧ vb = .int .i64 (d : Int) ∧ Hid (Below W5.heap.size W5 wt)) (fun vb _ => (S5).n + 1 - (RowKit.intOf vb).toNat)
          case atStart => exact ⟨1, by omega, by omega, rfl, HBw8⟩
          case round =>
            obtain ⟨d, hd1, hd2, rfl, HBwt⟩ := hrel
            rename World => wt
            have HVwt := Mm.hid (HV5.out.below HBwt.out)
            by_cases hdn : d ≤ (S5).n
            · have gd : (d : Int) ≤ N5 := by rw [HN5.out]; omega
              obtain ⟨B1, hB1⟩ : ∃ B1, Cg.beside (S5) (a : Int) (d : Int) = B1 := ⟨_, rfl⟩
              have HB12 : Hid (Cg.beside (S5) (a : Int) (d : Int) = B1 ∧ Cg.beside (S5) (d : Int) (a : Int) = B1) := Mm.hid ⟨hB1, by rw [Cg.beside_comm]; exact hB1⟩
              have gB : (B1 != B1) = false := by cases B1 <;> rfl
              clear hB1
              by_cases hse : Cg.sees (S5) (a : Int) (d : Int) = true
              · have HSE := Mm.hid hse
                by_cases hda : d = a
                · have gda : ((d : Int) != (a : Int)) = false := by simp; omega
                  clear hse hda
                  go_wp2_with fail
                  refine (sees_any wt _ (S5) (a : Int) (d : Int) HVwt hn5).mono ?_
                  rintro e w9 ⟨rfl, hb⟩
                  rw [HSE.out]
                  have HBw9 := Mm.hid (HBwt.out.trans (hb.mono HBwt.out.size))
                  have HVw9 := Mm.hid (HVwt.out.below hb)
                  clear hb
                  go_wp2_with fail
                  refine (beside_any w9 _ (S5) (a : Int) (d : Int) HVw9 hn5).mono ?_
                  rintro e w10 ⟨rfl, hb⟩
                  rw [HB12.out.1]
                  have HBw10 := Mm.hid (HBw9.out.trans (hb.mono HBw9.out.size))
                  have HVw10 := Mm.hid (HVw9.out.below hb)
                  clear hb
                  go_wp2_with fail
                  refine (beside_any w10 _ (S5) (d : Int) (a : Int) HVw10 hn5).mono ?_
                  rintro e w11 ⟨rfl, hb⟩
                  rw [HB12.out.2]
                  have HBw11 := Mm.hid (HBw10.out.trans (hb.mono HBw10.out.size))
                  have HVw11 := Mm.hid (HVw10.out.below hb)
                  clear hb
                  go_wp2_with fail
                  exact ⟨⟨d + 1, by omega, by omega, by go_num, HBw11⟩, by simp [RowKit.intOf]; omega⟩
                · have gda : ((d : Int) != (a : Int)) = true := by simp; omega
                  have hst : (((Cg.gt (S5) (d : Int)).st : Nat) : Int) = 2 := by rw [Cg.sees_st hse (by omega)]; rfl
                  clear hse hda
                  go_wp2_with fail
                  refine (sees_any wt _ (S5) (a : Int) (d : Int) HVwt hn5).mono ?_
                  rintro e w9 ⟨rfl, hb⟩
                  rw [HSE.out]
                  have HBw9 := Mm.hid (HBwt.out.trans (hb.mono HBwt.out.size))
                  have HVw9 := Mm.hid (HVwt.out.below hb)
                  clear hb
                  go_wp2_with fail
                  refine (state_any w9 _ (S5) (d : Int) HVw9 hn5).mono ?_
                  rintro e w9b ⟨rfl, hb⟩
                  rw [hst]
                  have HBw9b := Mm.hid (HBw9.out.trans (hb.mono HBw9.out.size))
                  have HVw9b := Mm.hid (HVw9.out.below hb)
                  clear hb
                  clear hst
                  go_wp2_with fail
                  refine (beside_any w9b _ (S5) (a : Int) (d : Int) HVw9b hn5).mono ?_
                  rintro e w10 ⟨rfl, hb⟩
                  rw [HB12.out.1]
                  have HBw10 := Mm.hid (HBw9b.out.trans (hb.mono HBw9b.out.size))
                  have HVw10 := Mm.hid (HVw9b.out.below hb)
                  clear hb
                  go_wp2_with fail
                  refine (beside_any w10 _ (S5) (d : Int) (a : Int) HVw10 hn5).mono ?_
                  rintro e w11 ⟨rfl, hb⟩
                  rw [HB12.out.2]
                  have HBw11 := Mm.hid (HBw10.out.trans (hb.mono HBw10.out.size))
                  have HVw11 := Mm.hid (HVw10.out.below hb)
                  clear hb
                  go_wp2_with fail
                  exact ⟨⟨d + 1, by omega, by omega, by go_num, HBw11⟩, by simp [RowKit.intOf]; omega⟩
              · have HSE : Hid (Cg.sees (S5) (a : Int) (d : Int) = false) := Mm.hid (by simpa using hse)
                clear hse
                go_wp2_with fail
                refine (sees_any wt _ (S5) (a : Int) (d : Int) HVwt hn5).mono ?_
                rintro e w9 ⟨rfl, hb⟩
                rw [HSE.out]
                have HBw9 := Mm.hid (HBwt.out.trans (hb.mono HBwt.out.size))
                have HVw9 := Mm.hid (HVwt.out.below hb)
                clear hb
                go_wp2_with fail
                refine (beside_any w9 _ (S5) (a : Int) (d : Int) HVw9 hn5).mono ?_
                rintro e w10 ⟨rfl, hb⟩
                rw [HB12.out.1]
                have HBw10 := Mm.hid (HBw9.out.trans (hb.mono HBw9.out.size))
                have HVw10 := Mm.hid (HVw9.out.below hb)
                clear hb
                go_wp2_with fail
                refine (beside_any w10 _ (S5) (d : Int) (a : Int) HVw10 hn5).mono ?_
                rintro e w11 ⟨rfl, hb⟩
                rw [HB12.out.2]
                have HBw11 := Mm.hid (HBw10.out.trans (hb.mono HBw10.out.size))
                have HVw11 := Mm.hid (HVw10.out.below hb)
                clear hb
                go_wp2_with fail
                exact ⟨⟨d + 1, by omega, by omega, by go_num, HBw11⟩, by simp [RowKit.intOf]; omega⟩
            · have gd : ¬ (d : Int) ≤ N5 := by rw [HN5.out]; omega
              go_wp2_with fail
              exact ⟨⟨a + 1, sp, by omega, by omega, by go_num, rfl, HNX, HBwt⟩, by simp [RowKit.intOf]; omega⟩
    · have ga : ¬ (a : Int) ≤ N5 := by rw [HN5.out]; omega
      go_wp2_with fail
      apply HEX.out
      exact HBr
end Go.Proofs.Ytdbbamjijhaeoaa
