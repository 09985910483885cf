/- ClogBeginning walked. -/
import Derived.Test.YtdbbamjijhaeoaaCc2
namespace Go.Proofs.Ytdbbamjijhaeoaa
open Go.RowKit


set_option maxRecDepth 100000 in
set_option maxHeartbeats 20000000 in
theorem clogBeginning_law (q : Option Addr) (L c : Nat) (xs : List Cg.Stp) (w : World) (hx0 : Cg.Stps w q L c xs) :
    Calls Try.prog 4 #[.slice q L c] w fun e w' => e = .returned (.bool true) ∧ Below w.heap.size w w' := by
  have HX := Mm.hid hx0
  by_cases h60 : 60 < L
  · have g1 : (60 : Int) < (L : Int) := by omega
    clear hx0
    go_enter Try.func4, Try.ntmps4
    go_wp2_with fail
    refine (new_any w).mono ?_
    rintro e w1 ⟨rfl, hl, hb⟩
    have HB1 := Mm.hid hb
    clear hl hb
    go_wp2_with fail
    refine (wakes_any w1).mono ?_
    rintro e w2 ⟨rfl, hb⟩
    have HB2 := Mm.hid (HB1.out.trans (hb.mono HB1.out.size))
    clear hb
    go_wp2_with fail
    go_ret
    exact ⟨rfl, HB2.out⟩
  · have g1 : ¬ (60 : Int) < (L : Int) := by omega
    have hL : L ≤ 60 := by omega
    clear hx0 h60
    go_enter Try.func4, Try.ntmps4
    go_wp2_with fail
    refine (new_any w).mono ?_
    rintro e w1 ⟨rfl, hl, hb⟩
    obtain ⟨p, hp⟩ : ∃ p, p = w.heap.size := ⟨_, rfl⟩
    rw [← hp] at hl ⊢
    have HP := Mm.hid hp
    have HL1 := Mm.hid hl
    have HB1 := Mm.hid hb
    clear hl hb hp
    go_wp2_with fail
    go_loopw [4, 5, 6] (fun vo vn vi wq => ∃ (j : Nat) (s : Cg.S) (O : List Nat), j ≤ L ∧ vi = .int .i64 (j : Int) ∧ vn = .int .i64 (s.n : Int) ∧ Hid (Mm.Fit s O j) ∧ Hid (Mm.Lg wq p s) ∧ Hid (Mm.Own wq (p + 1) 3 vo (Mm.nts O)) ∧ Hid (Below w.heap.size w wq)) (fun _ _ vi _ => L - (RowKit.intOf vi).toNat)
    case atStart => exact ⟨0, Cg.s0, [], by omega, rfl, rfl, Mm.hid ⟨Nat.le_refl _, Nat.le_refl _, Cg.inv0, Cg.Ord.zero⟩, HL1, Mm.hid (Mm.Own.nil _ _ _), HB1⟩
    case round =>
      obtain ⟨j, s, O, hj, rfl, rfl, HF, HLq, HOq, HBq⟩ := hrel
      rename World => wq
      obtain ⟨qo, co, hsh, -, -, -, -⟩ := HOq.out.shape
      obtain ⟨lo, hlo⟩ : ∃ lo, lo = (Mm.nts O).length := ⟨_, rfl⟩
      rw [← hlo] at hsh
      subst hsh
      have HLO := Mm.hid hlo
      clear hlo
      by_cases hjm : j < L
      · obtain ⟨x, hx⟩ : ∃ x, xs[j]? = some x := ⟨_, List.getElem?_eq_getElem (by rw [HX.out.len]; exact hjm)⟩
        obtain ⟨b, o, rfl, hbl, hc0, hc1, hc2⟩ := HX.out.at_ j x hx
        have d0 : wq.cell? ⟨b, o + j * 3, none⟩ = some (.int .i64 x.kd) := (HBq.out.cell (p := ⟨b, o + j * 3, none⟩) hbl).trans hc0
        have d1 : wq.cell? ⟨b, o + j * 3 + 1, none⟩ = some (.int .i64 x.xid) := (HBq.out.cell (p := ⟨b, o + j * 3 + 1, none⟩) hbl).trans hc1
        have d2 : wq.cell? ⟨b, o + j * 3 + 2, none⟩ = some (.bool x.rd) := (HBq.out.cell (p := ⟨b, o + j * 3 + 2, none⟩) hbl).trans hc2
        have g2 : (j : Int) < (L : Int) := by omega
        have g3 : (0 : Int) ≤ (j : Int) := by omega
        have HJL := Mm.hid (And.intro hjm hL)
        have hbw := Nat.lt_of_lt_of_le hbl HBq.out.size
        have hpq : p < wq.heap.size := HLq.out.lt
        have HLA : Hid (Mm.Lg (wq.alloc (.cells #[.int .i64 x.kd, .int .i64 x.xid, .bool x.rd] 33)) p s) := Mm.hid (HLq.out.below ((Below.refl _ _).alloc (Nat.le_refl _) _))
        have HOA : Hid (Mm.Own (wq.alloc (.cells #[.int .i64 x.kd, .int .i64 x.xid, .bool x.rd] 33)) (p + 1) 3 (.slice qo lo co) (Mm.nts O)) := Mm.hid (HOq.out.below ((Below.refl _ _).alloc (Nat.le_refl _) _))
        have HBA : Hid (Below w.heap.size w (wq.alloc (.cells #[.int .i64 x.kd, .int .i64 x.xid, .bool x.rd] 33))) := Mm.hid (HBq.out.alloc HBq.out.size _)
        have hn2 : s.n ≤ 200 := by have := HF.out.n; omega
        have hk : x.kd = 0 ∨ x.kd = 1 ∨ x.kd = 2 ∨ (x.kd ≠ 0 ∧ x.kd ≠ 1 ∧ x.kd ≠ 2) := by omega
        clear hx hbl hc0 hc1 hc2
        rcases hk with hk | hk | hk | hk
        · skip
          rw [hk] at d0 HLA HOA HBA
          clear hk
          have c2 : (wq.alloc (.cells #[.int .i64 0, .int .i64 x.xid, .bool x.rd] 33)).cell? ⟨wq.heap.size, 2, none⟩ = some (.bool x.rd) := Mm.cellOf (Mm.newAt _ _ rfl) rfl
          clear c2
          go_wp2_with fail
          refine (begin_any _ p s x.rd HLA hn2).mono ?_
          rintro e W5 ⟨rfl, hl, hb⟩
          have hbn := Cg.begS_n s x.rd (by have := HF.out.n; have := HJL.out; omega)
          have hA : ((Cg.begA s : Nat) : Int) = (s.n : Int) + 1 := by unfold Cg.begA; rw [if_neg (by have := HF.out.n; have := HJL.out; omega)]; rfl
          have hE : ((Cg.begE s : Nat) : Int) = 0 := by rw [hbn.2]; rfl
          rw [hbn.1] at hl
          rw [hA, hE]
          have HF5 : Hid (Mm.Fit (Cg.beg s x.rd) O (j + 1)) := Mm.hid ⟨Nat.succ_le_succ HF.out.n, Nat.le_succ_of_le HF.out.clk, HF.out.inv.beg _ (by have := HF.out.n; have := HJL.out; omega), HF.out.ord.beg _⟩
          have HL5 := Mm.hid hl
          have HO5 := Mm.hid (HOA.out.tch hb (Nat.lt_succ_self p))
          have HB5 := Mm.hid (HBA.out.trans (hb.bel (Nat.le_of_eq HP.out.symm) HBA.out.size))
          have HLO5 := HLO
          clear hl hb hbn hA hE HLA HOA HBA HLq HOq HBq HLO HF hpq
          go_wp2_with fail
          obtain ⟨N5, hN5⟩ : ∃ N5, N5 = (s.n : Int) + 1 := ⟨_, rfl⟩
          rw [← hN5]
          have HN5 : Hid (N5 = ((Cg.beg s x.rd).n : Int)) := Mm.hid hN5
          obtain ⟨S5, hS5⟩ : ∃ S5, Cg.beg s x.rd = S5 := ⟨_, rfl⟩
          rw [hS5] at HN5 HF5 HL5
          clear hN5 hS5
          go_wp2_with fail
          refine tailA _ W5 p (S5) (O) j L qo lo co N5 HJL HF5 HL5 HO5 HLO5 HN5 _ _ _ _ _ _ _ _ _ _ _ _ _ _ _ _ _ _ _ _ _ _ _ _ _ _ _ _ _ _ _ _ _ _ _ _ _ _ _ _ _ _ _ _ _ _ _ _ _ _ _ _ _ _ _ _ _ _ _ _ _ _ _ _ _ _ _ _ _ _ _ _ _ _ _ _ _ _ _ _ _ _ _ _ _ _ _ _ _ _ _ _ _ _ _ _ _ _ _ _ _ _ _ _ _ _ _ _ _ _ _ _ _ _ _ _ _ _ _ _ _ _ _ _ _ _ _ _ _ _ _ _ _ _ _ _ _ _ _ _ _ _ _ _ _ _ _ _ _ _ _ _ _ _ _ _ _ _ _ _ _ _ _ _ _ ?_
          intro v2 v12 v13 v14 v15 v16 v77 v78 v79 v80 v81 v82 v83 v84 v85 v86 v87 v88 v89 v90 v91 v92 v93 v94 v95 v96 v97 v98 v99 v100 v101 v102 v103 v104 v105 v106 v107 v108 v109 v110 v111 v112 v113 v114 v115 v116 v117 v118 v119 v120 v121 v122 v123 v124 v125 v126 v127 v128 v129 v130 v131 v132 v133 v134 v135 v136 v137 v138 v139 v140 v141 v142 v143 v144 v145 v146 v147 v148 v149 v150 v151 v152 v153 v154 v155 v156 v157 v158 v159 v160 v161 wr HBr
          go_wp2_with fail
          exact ⟨⟨j + 1, S5, O, by omega, by go_num, by rw [HN5.out], HF5, Mm.hid (HL5.out.below HBr.out), Mm.hid (HO5.out.below HBr.out), Mm.hid (HB5.out.trans (HBr.out.mono HB5.out.size))⟩, by simp [RowKit.intOf]; omega⟩
        · skip
          rw [hk] at d0 HLA HOA HBA
          clear hk
          by_cases hst : (Cg.gt s x.xid).st = 1
          · obtain ⟨y, hy, hy1, hy2⟩ := Cg.gt_some (s := s) (x := x.xid) (by omega)
            have hA : ((Cg.comA s x.xid : Nat) : Int) = (s.clk : Int) + 1 := by unfold Cg.comA; rw [if_pos hst]; rfl
            have hE : ((Cg.endE s x.xid : Nat) : Int) = 0 := by unfold Cg.endE; rw [if_pos hst]; rfl
            have hS : Cg.comS s x.xid = Cg.com s y := by unfold Cg.comS; rw [if_pos hst, hy]; rfl
            have hF : Mm.Fit (Cg.com s y) (O ++ [y]) (j + 1) := ⟨Nat.le_succ_of_le HF.out.n, Nat.succ_le_succ HF.out.clk, HF.out.inv.com hy1 hy2, HF.out.ord.com hy1 hy2 (by rw [hy, Cg.gt_in hy1 hy2] at hst; exact hst)⟩
            have HF5 := Mm.hid hF
            have cx : (wq.alloc (.cells #[.int .i64 1, .int .i64 x.xid, .bool x.rd] 33)).cell? ⟨wq.heap.size, 1, none⟩ = some (.int .i64 x.xid) := Mm.cellOf (Mm.newAt _ _ rfl) rfl
            have HCX := Mm.hid cx
            have HYX := Mm.hid hy
            have HOL : Hid (O.length ≤ 60) := Mm.hid (by have := HF.out.ord.len; have := HF.out.clk; have := HJL.out; omega)
            clear hst hF cx hy
            go_wp2_with fail
            refine (commit_any _ p s x.xid HLA hn2 (by have := HF.out.clk; have := HJL.out; omega)).mono ?_
            rintro e W4 ⟨rfl, hl, hb⟩
            rw [hS] at hl
            rw [hA, hE]
            have HL4 := Mm.hid hl
            have HO4 := Mm.hid (HOA.out.tch hb (Nat.lt_succ_self p))
            have HB4 := Mm.hid (HBA.out.trans (hb.bel (Nat.le_of_eq HP.out.symm) HBA.out.size))
            have c4 : W4.cell? ⟨wq.heap.size, 1, none⟩ = some (.int .i64 x.xid) := (World.cell?_of_block (a := ⟨wq.heap.size, 1, none⟩) (hb.block _ (by simp) (by show wq.heap.size ≠ p; omega))).trans HCX.out
            have hsz4 : p + 1 ≤ W4.heap.size := hl.lt
            clear hl hb hS hA hE HLA HOA HBA HLq HOq HBq HF HCX
            go_wp2_with (at_builtin; first
              | (refine Mm.appI W4 rfl _ _ rfl (p + 1) (.slice qo lo co) x.xid (Mm.nts O) rfl HO4.out _ rfl (by simp) (by rw [Mm.nts_len]; have := HOL.out; omega) hsz4 ?_
                 intro v5 W5 hown5 hg5 hloc5
                 obtain ⟨qo5, co5, hsh5, -, -, -, -⟩ := hown5.shape
                 obtain ⟨lo5, hlo5⟩ : ∃ lo5, lo5 = (Mm.nts O ++ [Value.int .i64 x.xid]).length := ⟨_, rfl⟩
                 rw [← hlo5] at hsh5
                 subst hsh5
                 have HO5 : Hid (Mm.Own W5 (p + 1) 3 (.slice qo5 lo5 co5) (Mm.nts (O ++ [y]))) := Mm.hid (by rw [Mm.nts_app]; rw [HYX.out] at hown5; exact hown5)
                 have HLO5 : Hid (lo5 = (Mm.nts (O ++ [y])).length) := Mm.hid (by rw [Mm.nts_app, hlo5, List.length_append, List.length_append]; rfl)
                 have HL5 := Mm.hid (HL4.out.keep (hg5.block p HL4.out.lt (fun e => by have := (HO4.out.lt e.symm).2; omega)))
                 have HB5 := Mm.hid (HB4.out.grown hg5 HB4.out.size (fun g e => by have := (HO4.out.lt e).2; have := HP.out; omega))
                 clear hown5 hg5 hloc5 hlo5))
            obtain ⟨N5, hN5⟩ : ∃ N5, N5 = (s.n : Int) := ⟨_, rfl⟩
            rw [← hN5]
            have HN5 : Hid (N5 = ((Cg.com s y).n : Int)) := Mm.hid hN5
            obtain ⟨S5, hS5⟩ : ∃ S5, Cg.com s y = S5 := ⟨_, rfl⟩
            obtain ⟨O5, hO5⟩ : ∃ O5, O ++ [y] = O5 := ⟨_, rfl⟩
            rw [hS5] at HN5 HF5 HL5
            rw [hO5] at HF5 HO5 HLO5
            clear hN5 hS5 hO5 c4
            go_wp2_with fail
            refine tailA _ W5 p (S5) (O5) j L qo5 lo5 co5 N5 HJL HF5 HL5 HO5 HLO5 HN5 _ _ _ _ _ _ _ _ _ _ _ _ _ _ _ _ _ _ _ _ _ _ _ _ _ _ _ _ _ _ _ _ _ _ _ _ _ _ _ _ _ _ _ _ _ _ _ _ _ _ _ _ _ _ _ _ _ _ _ _ _ _ _ _ _ _ _ _ _ _ _ _ _ _ _ _ _ _ _ _ _ _ _ _ _ _ _ _ _ _ _ _ _ _ _ _ _ _ _ _ _ _ _ _ _ _ _ _ _ _ _ _ _ _ _ _ _ _ _ _ _ _ _ _ _ _ _ _ _ _ _ _ _ _ _ _ _ _ _ _ _ _ _ _ _ _ _ _ _ _ _ _ _ _ _ _ _ _ _ _ _ _ _ _ _ ?_
            intro v2 v12 v13 v14 v15 v16 v77 v78 v79 v80 v81 v82 v83 v84 v85 v86 v87 v88 v89 v90 v91 v92 v93 v94 v95 v96 v97 v98 v99 v100 v101 v102 v103 v104 v105 v106 v107 v108 v109 v110 v111 v112 v113 v114 v115 v116 v117 v118 v119 v120 v121 v122 v123 v124 v125 v126 v127 v128 v129 v130 v131 v132 v133 v134 v135 v136 v137 v138 v139 v140 v141 v142 v143 v144 v145 v146 v147 v148 v149 v150 v151 v152 v153 v154 v155 v156 v157 v158 v159 v160 v161 wr HBr
            go_wp2_with fail
            exact ⟨⟨j + 1, S5, O5, by omega, by go_num, by rw [HN5.out], HF5, Mm.hid (HL5.out.below HBr.out), Mm.hid (HO5.out.below HBr.out), Mm.hid (HB5.out.trans (HBr.out.mono HB5.out.size))⟩, by simp [RowKit.intOf]; omega⟩
          · have hE : ((Cg.endE s x.xid : Nat) : Int) = 76 := by unfold Cg.endE; rw [if_neg hst]; rfl
            have hS : Cg.comS s x.xid = s := by unfold Cg.comS; rw [if_neg hst]
            have HF5 : Hid (Mm.Fit s O (j + 1)) := Mm.hid ⟨Nat.le_succ_of_le HF.out.n, Nat.le_succ_of_le HF.out.clk, HF.out.inv, HF.out.ord⟩
            clear hst
            go_wp2_with fail
            refine (commit_any _ p s x.xid HLA hn2 (by have := HF.out.clk; have := HJL.out; omega)).mono ?_
            rintro e W5 ⟨rfl, hl, hb⟩
            rw [hS] at hl
            rw [hE]
            have HL5 := Mm.hid hl
            have HO5 := Mm.hid (HOA.out.tch hb (Nat.lt_succ_self p))
            have HB5 := Mm.hid (HBA.out.trans (hb.bel (Nat.le_of_eq HP.out.symm) HBA.out.size))
            have HLO5 := HLO
            clear hl hb hS hE HLA HOA HBA HLq HOq HBq HF HLO
            go_wp2_with fail
            obtain ⟨N5, hN5⟩ : ∃ N5, N5 = (s.n : Int) := ⟨_, rfl⟩
            rw [← hN5]
            have HN5 : Hid (N5 = (s.n : Int)) := Mm.hid hN5
            clear hN5
            go_wp2_with fail
            refine tailA _ W5 p (s) (O) j L qo lo co N5 HJL HF5 HL5 HO5 HLO5 HN5 _ _ _ _ _ _ _ _ _ _ _ _ _ _ _ _ _ _ _ _ _ _ _ _ _ _ _ _ _ _ _ _ _ _ _ _ _ _ _ _ _ _ _ _ _ _ _ _ _ _ _ _ _ _ _ _ _ _ _ _ _ _ _ _ _ _ _ _ _ _ _ _ _ _ _ _ _ _ _ _ _ _ _ _ _ _ _ _ _ _ _ _ _ _ _ _ _ _ _ _ _ _ _ _ _ _ _ _ _ _ _ _ _ _ _ _ _ _ _ _ _ _ _ _ _ _ _ _ _ _ _ _ _ _ _ _ _ _ _ _ _ _ _ _ _ _ _ _ _ _ _ _ _ _ _ _ _ _ _ _ _ _ _ _ _ ?_
            intro v2 v12 v13 v14 v15 v16 v77 v78 v79 v80 v81 v82 v83 v84 v85 v86 v87 v88 v89 v90 v91 v92 v93 v94 v95 v96 v97 v98 v99 v100 v101 v102 v103 v104 v105 v106 v107 v108 v109 v110 v111 v112 v113 v114 v115 v116 v117 v118 v119 v120 v121 v122 v123 v124 v125 v126 v127 v128 v129 v130 v131 v132 v133 v134 v135 v136 v137 v138 v139 v140 v141 v142 v143 v144 v145 v146 v147 v148 v149 v150 v151 v152 v153 v154 v155 v156 v157 v158 v159 v160 v161 wr HBr
            go_wp2_with fail
            exact ⟨⟨j + 1, s, O, by omega, by go_num, by rw [HN5.out], HF5, Mm.hid (HL5.out.below HBr.out), Mm.hid (HO5.out.below HBr.out), Mm.hid (HB5.out.trans (HBr.out.mono HB5.out.size))⟩, by simp [RowKit.intOf]; omega⟩
        · skip
          rw [hk] at d0 HLA HOA HBA
          clear hk
          have hn := Cg.aboS_n s x.xid
          have HF5 : Hid (Mm.Fit (Cg.aboS s x.xid) O (j + 1)) := Mm.hid ⟨by rw [hn.1]; exact Nat.le_succ_of_le HF.out.n, by rw [hn.2]; exact Nat.le_succ_of_le HF.out.clk, HF.out.inv.aboS _, HF.out.ord.aboS _⟩
          have HNN := Mm.hid hn.1
          clear hn
          go_wp2_with fail
          refine (abort_any _ p s x.xid HLA hn2).mono ?_
          rintro e W5 ⟨rfl, hl, hb⟩
          have HL5 := Mm.hid hl
          have HO5 := Mm.hid (HOA.out.tch hb (Nat.lt_succ_self p))
          have HB5 := Mm.hid (HBA.out.trans (hb.bel (Nat.le_of_eq HP.out.symm) HBA.out.size))
          have HLO5 := HLO
          clear hl hb HLA HOA HBA HLq HOq HBq HF HLO
          go_wp2_with fail
          obtain ⟨N5, hN5⟩ : ∃ N5, N5 = (s.n : Int) := ⟨_, rfl⟩
          rw [← hN5]
          have HN5 : Hid (N5 = ((Cg.aboS s x.xid).n : Int)) := Mm.hid (by rw [HNN.out]; exact hN5)
          obtain ⟨S5, hS5⟩ : ∃ S5, Cg.aboS s x.xid = S5 := ⟨_, rfl⟩
          rw [hS5] at HN5 HF5 HL5
          clear hN5 hS5 HNN
          go_wp2_with fail
          refine tailA _ W5 p (S5) (O) j L qo lo co N5 HJL HF5 HL5 HO5 HLO5 HN5 _ _ _ _ _ _ _ _ _ _ _ _ _ _ _ _ _ _ _ _ _ _ _ _ _ _ _ _ _ _ _ _ _ _ _ _ _ _ _ _ _ _ _ _ _ _ _ _ _ _ _ _ _ _ _ _ _ _ _ _ _ _ _ _ _ _ _ _ _ _ _ _ _ _ _ _ _ _ _ _ _ _ _ _ _ _ _ _ _ _ _ _ _ _ _ _ _ _ _ _ _ _ _ _ _ _ _ _ _ _ _ _ _ _ _ _ _ _ _ _ _ _ _ _ _ _ _ _ _ _ _ _ _ _ _ _ _ _ _ _ _ _ _ _ _ _ _ _ _ _ _ _ _ _ _ _ _ _ _ _ _ _ _ _ _ ?_
          intro v2 v12 v13 v14 v15 v16 v77 v78 v79 v80 v81 v82 v83 v84 v85 v86 v87 v88 v89 v90 v91 v92 v93 v94 v95 v96 v97 v98 v99 v100 v101 v102 v103 v104 v105 v106 v107 v108 v109 v110 v111 v112 v113 v114 v115 v116 v117 v118 v119 v120 v121 v122 v123 v124 v125 v126 v127 v128 v129 v130 v131 v132 v133 v134 v135 v136 v137 v138 v139 v140 v141 v142 v143 v144 v145 v146 v147 v148 v149 v150 v151 v152 v153 v154 v155 v156 v157 v158 v159 v160 v161 wr HBr
          go_wp2_with fail
          exact ⟨⟨j + 1, S5, O, by omega, by go_num, by rw [HN5.out], HF5, Mm.hid (HL5.out.below HBr.out), Mm.hid (HO5.out.below HBr.out), Mm.hid (HB5.out.trans (HBr.out.mono HB5.out.size))⟩, by simp [RowKit.intOf]; omega⟩
        · skip
          have e0 : (x.kd == 0) = false := by simpa using hk.1
          have e1 : (x.kd == 1) = false := by simpa using hk.2.1
          have e2 : (x.kd == 2) = false := by simpa using hk.2.2
          have HF5 : Hid (Mm.Fit s O (j + 1)) := Mm.hid ⟨Nat.le_succ_of_le HF.out.n, Nat.le_succ_of_le HF.out.clk, HF.out.inv, HF.out.ord⟩
          have HLO5 := HLO
          clear hk
          go_wp2_with fail
          obtain ⟨W5, hW5⟩ : ∃ W5, (wq.alloc (.cells #[.int .i64 x.kd, .int .i64 x.xid, .bool x.rd] 33)) = W5 := ⟨_, rfl⟩
          have HL5 := HLA
          have HO5 := HOA
          have HB5 := HBA
          rw [hW5] at HL5 HO5 HB5 ⊢
          clear HLA HOA HBA HLq HOq HBq HF HLO hW5
          obtain ⟨N5, hN5⟩ : ∃ N5, N5 = (s.n : Int) := ⟨_, rfl⟩
          rw [← hN5]
          have HN5 : Hid (N5 = (s.n : Int)) := Mm.hid hN5
          clear hN5 e0 e1 e2
          refine tailA _ W5 p (s) (O) j L qo lo co N5 HJL HF5 HL5 HO5 HLO5 HN5 _ _ _ _ _ _ _ _ _ _ _ _ _ _ _ _ _ _ _ _ _ _ _ _ _ _ _ _ _ _ _ _ _ _ _ _ _ _ _ _ _ _ _ _ _ _ _ _ _ _ _ _ _ _ _ _ _ _ _ _ _ _ _ _ _ _ _ _ _ _ _ _ _ _ _ _ _ _ _ _ _ _ _ _ _ _ _ _ _ _ _ _ _ _ _ _ _ _ _ _ _ _ _ _ _ _ _ _ _ _ _ _ _ _ _ _ _ _ _ _ _ _ _ _ _ _ _ _ _ _ _ _ _ _ _ _ _ _ _ _ _ _ _ _ _ _ _ _ _ _ _ _ _ _ _ _ _ _ _ _ _ _ _ _ _ ?_
          intro v2 v12 v13 v14 v15 v16 v77 v78 v79 v80 v81 v82 v83 v84 v85 v86 v87 v88 v89 v90 v91 v92 v93 v94 v95 v96 v97 v98 v99 v100 v101 v102 v103 v104 v105 v106 v107 v108 v109 v110 v111 v112 v113 v114 v115 v116 v117 v118 v119 v120 v121 v122 v123 v124 v125 v126 v127 v128 v129 v130 v131 v132 v133 v134 v135 v136 v137 v138 v139 v140 v141 v142 v143 v144 v145 v146 v147 v148 v149 v150 v151 v152 v153 v154 v155 v156 v157 v158 v159 v160 v161 wr HBr
          go_wp2_with fail
          exact ⟨⟨j + 1, s, O, by omega, by go_num, by rw [HN5.out], HF5, Mm.hid (HL5.out.below HBr.out), Mm.hid (HO5.out.below HBr.out), Mm.hid (HB5.out.trans (HBr.out.mono HB5.out.size))⟩, by simp [RowKit.intOf]; omega⟩
      · obtain rfl : j = L := by omega
        have HV5 : Hid (Mm.Lv wq (.pointer (some ⟨p, 0, none⟩)) s) := Mm.hid (Or.inl ⟨p, rfl, HLq.out⟩)
        have hcl : ((s.clk : Int) == (lo : Int)) = true := by
          have h1 := HLO.out
          rw [Mm.nts_len, HF.out.ord.len] at h1
          simp; omega
        go_wp2_with fail
        refine (clock_any wq _ s HV5).mono ?_
        rintro e w6 ⟨rfl, hb⟩
        have HB6 := Mm.hid (HBq.out.trans (hb.mono HBq.out.size))
        clear hb
        go_wp2_with fail
        refine (wakes_any w6).mono ?_
        rintro e w7 ⟨rfl, hb⟩
        have HB7 := Mm.hid (HB6.out.trans (hb.mono HB6.out.size))
        clear hb
        go_wp2_with fail
        go_ret
        exact ⟨rfl, HB7.out⟩
end Go.Proofs.Ytdbbamjijhaeoaa
