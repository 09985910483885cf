/- The reference's Circles walked. -/
import Derived.Test.YthikdfcndppoaaaWf3
import Derived.Deep.RegionWith
namespace Go.Proofs.Ythikdfcndppoaaa
open Go.RowKit

set_option maxRecDepth 100000 in
set_option maxHeartbeats 8000000 in
theorem refCircles_any (w : World) (q : Option Addr) (c n : Nat) (l : Kn.El) (hl : Hid (Mm.EIn w q l)) (hn : Hid (n = l.length)) (hn1 : n < 100) :
    Calls Try.prog 9 #[.slice q n c] w fun e w' => ∃ (q' : Option Addr) (c' : Nat) (K : List (List Int)), e = .returned (.slice q' K.length c') ∧ Mm.KIn w' q' K ∧ K.length < 100000 ∧ Kn.Knots l K ∧ Below w.heap.size w w' := by
  go_enter Try.func9, Try.ntmps9
  go_wp2_with fail
  refine (nodes_any w q c n l hl hn (by omega)).mono ?_
  rintro e w1 ⟨vN, N, rfl, hoN, hnl, hup, hnd, hb1⟩
  obtain ⟨qN, cN, eN, hiN, hcN, _⟩ := hoN.iin
  obtain ⟨LN, hLN⟩ : ∃ LN, LN = N.length := ⟨_, rfl⟩
  rw [← hLN] at eN hcN hnl
  have HUP := Mm.hid hup
  have HND := Mm.hid hnd
  have HB1 := Mm.hid hb1
  have HIN := Mm.hid hiN
  have HLN := Mm.hid hLN
  have HE1 := Mm.hid (hl.out.below hb1)
  clear hoN hup hnd hb1 hiN hLN
  subst eN
  go_wp2_with fail
  go_loopw [3, 5, 6] (fun v3 v5 v6 wr => ∃ (i : Nat) (xs : List Value) (K : List (List Int)) (D : List Int), i ≤ LN ∧ v6 = .int .i64 (i : Int) ∧ Hid (Mm.Kc wr w1.heap.size v3 v5 xs K D) ∧ Hid (Mm.Cs l N i D K) ∧ Hid (Below w1.heap.size w1 wr)) (fun _ _ v6 _ => LN - (RowKit.intOf v6).toNat)
  case atStart => exact ⟨0, [], [], [], by omega, rfl, Mm.Kc.start _ _, Mm.Cs.start _ _, Below.refl _ _⟩
  case round =>
    obtain ⟨i, xs, K, D, hi, rfl, HC, HS, HB⟩ := hrel
    rename World => wr
    by_cases hlt : i < LN
    · obtain ⟨nd, hnd⟩ : ∃ nd, N[i]? = some nd := ⟨_, List.getElem?_eq_getElem (by rw [← HLN.out]; exact hlt)⟩
      obtain ⟨b, o, eq, _, d0⟩ := (HIN.out.below HB.out) i nd hnd
      have HI := Mm.hid hnd
      have HII := Mm.hid HIN.out
      clear hnd
      subst eq
      have hDl := HS.out.dl
      rw [← HLN.out] at hDl
      have hDl2 : D.length ≤ 40000 := Nat.le_trans hDl (show i * LN ≤ 200 * 200 from Nat.mul_le_mul (by omega) (by omega))
      have hKl := HS.out.kl
      have HDK := Mm.hid (And.intro hDl2 hKl)
      clear hDl hDl2 hKl
      go_wp2_with fail
      refine (reach_any wr q c n l nd (Mm.hid (HE1.out.below HB.out)) hn (by omega)).mono ?_
      rintro e w2 ⟨vR, M, rfl, hoR, hML, hM, hb2⟩
      obtain ⟨qR, cR, eR, hiR, hcR, _⟩ := hoR.iin
      obtain ⟨LM, hLM⟩ : ∃ LM, LM = M.length := ⟨_, rfl⟩
      rw [← hLM] at eR hcR hML
      subst eR
      have HOR := Mm.hid hoR
      have HM := Mm.hid hM
      have HLM := Mm.hid hLM
      have HB2 := Mm.hid (Mm.belTr HB.out (Nat.le_refl _) hb2)
      have HC2 := Mm.hid (HC.out.keep hb2)
      have HZ := Mm.hid (And.intro HC.out.d hb2.size)
      clear hoR hM hLM hb2 hiR HB HC
      obtain ⟨qD, cD, eD, hiD, hcD, _⟩ := HC2.out.d.iin
      obtain ⟨LD, hLD⟩ : ∃ LD, LD = D.length := ⟨_, rfl⟩
      rw [← hLD] at eD hcD
      have HLD := Mm.hid hLD
      have hLDs : LD < 100000 := by have := HDK.out.1; omega
      clear hiD hLD
      subst eD
      have HID : Hid (Mm.IIn w2 qD D) := by
        obtain ⟨q3, c3, e3, h3, _⟩ := HC2.out.d.iin
        cases e3
        exact h3
      have HIM : Hid (Mm.IIn w2 qR M) := by
        obtain ⟨q3, c3, e3, h3, _⟩ := HOR.out.iin
        cases e3
        exact h3
      have HIDM := Mm.hid (And.intro HID HIM)
      clear HID HIM
      have hLMs : LM < 100000 := by omega
      by_cases h1 : nd ∈ D
      · have H1 := Mm.hid h1
        clear h1
        go_wp2_with fail
        refine (has_yes w2 qD cD LD D nd HIDM.out.1 HLD hLDs H1.out).mono ?_
        rintro e w3 ⟨rfl, rfl⟩
        go_wp2_with fail
        exact ⟨⟨i + 1, xs, K, D, by omega, by go_num, HC2, HS.out.skip HI.out (.inl H1.out), HB2⟩, by simp [RowKit.intOf]; omega⟩
      · have H1 := Mm.hid h1
        clear h1
        by_cases h2 : nd ∈ M
        · have H2 := Mm.hid h2
          clear h2
          go_wp2_with fail
          refine (has_no w2 qD cD LD D nd HIDM.out.1 HLD hLDs H1.out).mono ?_
          rintro e wa ⟨rfl, rfl⟩
          go_wp2_with fail
          refine (has_yes wa qR cR LM M nd HIDM.out.2 HLM hLMs H2.out).mono ?_
          rintro e w3 ⟨rfl, rfl⟩
          have HC3 := Mm.hid HC2.out
          have HO3 := Mm.hid HOR.out
          have HB3 := Mm.hid HB2.out
          have HZ3 : Hid (wr.heap.size ≤ w3.heap.size) := HZ.out.2
          clear HIDM d0 HC2 HOR HB2
          go_wp2_with fail
          go_loopw [5, 9, 10] (fun v5 v9 v10 wq => ∃ (j : Nat) (k : List Int), j ≤ LN ∧ v10 = .int .i64 (j : Int) ∧ Hid (Mm.Kw w3 wq w1.heap.size (.slice qD LD cD) v5 v9 D k) ∧ Hid (Mm.Ck l N nd j k) ∧ Hid (Below w1.heap.size w1 wq)) (fun _ _ v10 _ => LN - (RowKit.intOf v10).toNat)
          case atStart => exact ⟨0, [], by omega, rfl, Mm.Kw.start HC3.out, Mm.Ck.start _ _ _, HB3⟩
          case round =>
            obtain ⟨j, k, hj, rfl, HKW, HCK, HBq⟩ := hrel
            rename World => wq
            by_cases hjl : j < LN
            · obtain ⟨y, hy⟩ : ∃ y, N[j]? = some y := ⟨_, List.getElem?_eq_getElem (by rw [← HLN.out]; exact hjl)⟩
              obtain ⟨by', oy, eqy, _, dy⟩ := (HII.out.below HBq.out) j y hy
              injection eqy with eqy
              injection eqy with eb eo
              subst eb
              subst eo
              have HY := Mm.hid hy
              clear hy
              have HIMq : Hid (Mm.IIn wq qR M) := by
                have h := HO3.out.keep (w' := wq) (fun g hg => HKW.out.gr.block g (HO3.out.lt hg).1 (fun e => by have := (HO3.out.lt hg).2; have := (HZ.out.1.lt e.symm).1; omega))
                obtain ⟨q3, c3, e3, h3, _⟩ := h.iin
                cases e3
                exact h3
              have gj0 : (0 : Int) ≤ (j : Int) := by omega
              have gj1 : (j : Int) < (LN : Int) := by omega
              by_cases hyM : y ∈ M
              · have HYM := Mm.hid hyM
                clear hyM
                have HEq := Mm.hid (HE1.out.below HBq.out)
                by_cases hr : Rch (Kn.R l) y nd
                · have HR := Mm.hid hr
                  clear hr
                  go_wp2_with fail
                  refine (has_yes wq qR cR LM M y HIMq HLM hLMs HYM.out).mono ?_
                  rintro e w5 ⟨rfl, rfl⟩
                  go_wp2_with fail
                  refine (reach_any w5 q c n l y HEq hn (by omega)).mono ?_
                  rintro e w6 ⟨v6, M6, rfl, ho6, hl6, hm6, hb6⟩
                  obtain ⟨q6, c6, e6, hi6, _, _⟩ := ho6.iin
                  obtain ⟨L6, hL6⟩ : ∃ L6, L6 = M6.length := ⟨_, rfl⟩
                  rw [← hL6] at e6 hl6
                  subst e6
                  have HI6 := Mm.hid hi6
                  have HL6 := Mm.hid hL6
                  have HM6 : Hid (nd ∈ M6) := Mm.hid ((hm6 nd).2 HR.out)
                  have HKW6 := Mm.hid (HKW.out.keep hb6)
                  have HBq6 := Mm.hid (Mm.belTr HBq.out (Nat.le_refl _) hb6)
                  have dy6 : w6.cell? ⟨b, o + j, none⟩ = some (.int .i64 y) := by
                    obtain ⟨b7, o7, e7, _, d7⟩ := (HII.out.below HBq6.out) j y HY.out
                    cases e7
                    exact d7
                  clear ho6 hm6 hb6 hi6 hL6
                  go_wp2_with fail
                  refine (has_yes w6 q6 c6 L6 M6 nd HI6 HL6 (by omega) HM6.out).mono ?_
                  rintro e w7 ⟨rfl, rfl⟩
                  have HKL : Hid (k.length ≤ 200 ∧ (D ++ k).length ≤ 41000) := Mm.hid (by
                    have h1 := HCK.out.len
                    have h2 := HLN.out
                    have h3 := HDK.out.1
                    rw [List.length_append]
                    omega)
                  go_wp2_with (at_builtin; first
                    | (refine Mm.appI w7 rfl _ _ rfl w1.heap.size u9 y (Mm.its k) rfl HKW6.out.two.b _ rfl (by simp) (by rw [Mm.its_len]; have := HKL.out.1; omega) HBq6.out.size ?_
                       intro v8 w8 hown8 hg8 hloc8
                       have HT8 := Mm.hid (HKW6.out.two.putB (m' := k ++ [y]) hg8 (by rw [Mm.its_app]; exact hown8) hloc8)
                       have HB8 := Mm.hid (HBq6.out.grown hg8 HBq6.out.size (fun g hg => (HKW6.out.two.b.lt hg).2))
                       have HX8 := Mm.hid (And.intro hg8 hloc8)
                       have dy8 : w8.cell? ⟨b, o + j, none⟩ = some (.int .i64 y) := by
                         obtain ⟨b7, o7, e7, _, d7⟩ := (HII.out.below HB8.out) j y HY.out
                         cases e7
                         exact d7
                       clear hown8 hg8 hloc8)
                    | (refine Mm.appI w8 rfl _ _ rfl w1.heap.size u5 y (Mm.its (D ++ k)) rfl HT8.out.a _ rfl (by simp) (by rw [Mm.its_len]; have := HKL.out.2; omega) HB8.out.size ?_
                       intro v9 w9 hown9 hg9 hloc9
                       have HKW9 := Mm.hid (HKW6.out.add HX8.out.1 HX8.out.2 HT8.out hg9 hown9 hloc9)
                       have HB9 := Mm.hid (HB8.out.grown hg9 HB8.out.size (fun g hg => (HT8.out.a.lt hg).2))
                       clear hown9 hg9 hloc9))
                  have HCK9 := Mm.hid (HCK.out.add HUP.out HY.out ((HM.out y).1 HYM.out) HR.out)
                  first
                    | exact ⟨⟨v9, v8, .int .i64 ((j : Int) + 1), ⟨j + 1, by omega, by go_num, k ++ [y], HKW9, HCK9⟩, rfl, rfl, rfl⟩, by simp [RowKit.intOf]; omega⟩
                    | exact ⟨⟨v9, v8, .int .i64 ((j : Int) + 1), ⟨j + 1, by omega, by go_num, k ++ [y], HKW9, HCK9, HB9⟩, rfl, rfl, rfl⟩, by simp [RowKit.intOf]; omega⟩
                    | exact ⟨⟨j + 1, k ++ [y], by omega, by go_num, HKW9, HCK9, HB9⟩, by simp [RowKit.intOf]; omega⟩
                · have HR := Mm.hid hr
                  clear hr
                  go_wp2_with fail
                  refine (has_yes wq qR cR LM M y HIMq HLM hLMs HYM.out).mono ?_
                  rintro e w5 ⟨rfl, rfl⟩
                  go_wp2_with fail
                  refine (reach_any w5 q c n l y HEq hn (by omega)).mono ?_
                  rintro e w6 ⟨v6, M6, rfl, ho6, hl6, hm6, hb6⟩
                  obtain ⟨q6, c6, e6, hi6, _, _⟩ := ho6.iin
                  obtain ⟨L6, hL6⟩ : ∃ L6, L6 = M6.length := ⟨_, rfl⟩
                  rw [← hL6] at e6 hl6
                  subst e6
                  have HI6 := Mm.hid hi6
                  have HL6 := Mm.hid hL6
                  have HM6 : Hid (nd ∉ M6) := Mm.hid (fun h => HR.out ((hm6 nd).1 h))
                  have HKW6 := Mm.hid (HKW.out.keep hb6)
                  have HBq6 := Mm.hid (Mm.belTr HBq.out (Nat.le_refl _) hb6)
                  have dy6 : w6.cell? ⟨b, o + j, none⟩ = some (.int .i64 y) := by
                    obtain ⟨b7, o7, e7, _, d7⟩ := (HII.out.below HBq6.out) j y HY.out
                    cases e7
                    exact d7
                  clear ho6 hm6 hb6 hi6 hL6
                  go_wp2_with fail
                  refine (has_no w6 q6 c6 L6 M6 nd HI6 HL6 (by omega) HM6.out).mono ?_
                  rintro e w7 ⟨rfl, rfl⟩
                  go_wp2_with fail
                  exact ⟨⟨j + 1, k, by omega, by go_num, HKW6, HCK.out.skip HY.out (fun h => HR.out h.2), HBq6⟩, by simp [RowKit.intOf]; omega⟩
              · have HYM := Mm.hid hyM
                clear hyM
                go_wp2_with fail
                refine (has_no wq qR cR LM M y HIMq HLM hLMs HYM.out).mono ?_
                rintro e w5 ⟨rfl, rfl⟩
                go_wp2_with fail
                exact ⟨⟨j + 1, k, by omega, by go_num, HKW, HCK.out.skip HY.out (fun h => HYM.out ((HM.out y).2 h.1)), HBq⟩, by simp [RowKit.intOf]; omega⟩
            · obtain rfl : j = LN := by omega
              have HO17 := Mm.hid (HC3.out.o.keep (w' := wq) (fun g hg => HKW.out.gr.block g (HC3.out.o.lt hg).1 (fun e => HC3.out.od g hg e.symm)))
              have hxl : xs.length < 1000 := by rw [HC3.out.len]; have := HDK.out.2; omega
              obtain ⟨qk, ck, ek, _, _⟩ := HKW.out.two.b.shape
              obtain ⟨LK, hLK⟩ : ∃ LK, LK = (Mm.its k).length := ⟨_, rfl⟩
              rw [← hLK] at ek
              clear hLK
              subst ek
              go_wp2_with (at_builtin; refine Mm.appS wq rfl _ _ rfl w1.heap.size u3 qk LK ck xs rfl HO17.out _ rfl (by simp) (by omega) HBq.out.size ?_; intro v17 w17 hown17 hg17 hloc17; have HKC := Mm.hid (HC3.out.add HKW.out hg17 hown17 hloc17); have HB17 := Mm.hid (HBq.out.grown hg17 HBq.out.size (fun g hg => (HO17.out.lt hg).2)); clear hown17 hg17 hloc17)
              have HCS := Mm.hid (HS.out.add HUP.out HND.out HI.out ((HM.out nd).1 H2.out) H1.out HCK.out HLN.out)
              first
                | exact ⟨⟨v17, u5, .int .i64 ((i : Int) + 1), ⟨i + 1, by omega, by go_num, _, _, _, HKC, HCS⟩, rfl, rfl, rfl⟩, by simp [RowKit.intOf]; omega⟩
                | exact ⟨⟨v17, u5, .int .i64 ((i : Int) + 1), ⟨i + 1, by omega, by go_num, _, _, _, HKC, HCS, HB17⟩, rfl, rfl, rfl⟩, by simp [RowKit.intOf]; omega⟩
                | exact ⟨⟨i + 1, _, _, _, by omega, by go_num, HKC, HCS, HB17⟩, by simp [RowKit.intOf]; omega⟩
                | trace_state
        · have H2 := Mm.hid h2
          clear h2
          go_wp2_with fail
          refine (has_no w2 qD cD LD D nd HIDM.out.1 HLD hLDs H1.out).mono ?_
          rintro e w3 ⟨rfl, rfl⟩
          go_wp2_with fail
          refine (has_no w3 qR cR LM M nd HIDM.out.2 HLM hLMs H2.out).mono ?_
          rintro e w4 ⟨rfl, rfl⟩
          go_wp2_with fail
          exact ⟨⟨i + 1, xs, K, D, by omega, by go_num, HC2, HS.out.skip HI.out (.inr (fun h => H2.out ((HM.out nd).2 h))), HB2⟩, by simp [RowKit.intOf]; omega⟩
    · obtain rfl : i = LN := by omega
      obtain ⟨qK, cK, eK, hK⟩ := HC.out.kin HS.out.ne
      have HKK := Mm.hid hK
      have HKN := Mm.hid (HS.out.done HND.out HLN.out)
      have HKL := Mm.hid HS.out.kl
      clear hK
      subst eK
      go_wp2_with fail
      go_ret
      exact ⟨qK, cK, K, rfl, HKK.out, by have := HKL.out; omega, HKN.out, Mm.belTr HB1.out (Nat.le_refl _) HB.out⟩
end Go.Proofs.Ythikdfcndppoaaa
