/- WaitTells: the law walked. -/
import Derived.Test.YthikdfcndppoaaaWf5
import Derived.Test.YthikdfcndppoaaaWf6
import Derived.Test.YthikdfcndppoaaaWg0
import Derived.Test.YthikdfcndppoaaaWc3
namespace Go.Proofs.Ythikdfcndppoaaa
open Go.RowKit

set_option maxRecDepth 100000 in
set_option maxHeartbeats 4000000 in
theorem waitTells_law (w : World) (q : Option Addr) (c : Nat) (l : Kn.El) (n : Nat) (hl : Hid (Mm.EIn w q l)) (hn : Hid (n = l.length)) (hq : Hid (q = none → c = 0)) :
    Calls Try.prog 3 #[.slice q n c] w fun e w' => e = .returned (.bool true) ∧ Below w.heap.size w w' := by
  by_cases h40 : 40 < n
  · go_enter Try.func3, Try.ntmps3
    go_wp2_with (go_at_call 6; refine (wakes_tail w w (Mm.hid (Below.refl _ _))).mono ?_; rintro e w1 ⟨rfl, hb⟩; have HB := Mm.hid hb; clear hb)
    go_ret
    exact ⟨rfl, HB.out⟩
  · have hn40 : n ≤ 40 := by omega
    go_enter Try.func3, Try.ntmps3
    go_wp2_with fail
    refine (few_any w q c n l hl hn (by omega) hq).mono ?_
    rintro e w1 ⟨v1, rfl, ho1, hb1⟩
    obtain ⟨q1, c1, e1, hc1, he1, hq1, _⟩ := ho1.ein
    rw [← hn.out] at e1 hc1
    subst e1
    have HE1 := Mm.hid he1
    have HB1 := Mm.hid hb1
    have HL1 := Mm.hid (hl.out.below hb1)
    clear ho1 he1 hb1 hq1
    go_wp2_with fail
    refine (circles_any w1 q1 c1 l n HE1 hn (by omega)).mono ?_
    rintro e w2 ⟨qa, ca, K, rfl, hka, hK1, hkn, hb2⟩
    have HK := Mm.hid hkn
    have HKA := Mm.hid hka
    have HB2 := Mm.hid (Mm.belTr HB1.out (Nat.le_refl _) hb2)
    have HE2 := Mm.hid (HE1.out.below hb2)
    have HL2 := Mm.hid (HL1.out.below hb2)
    clear hkn hka hb2 HE1 HB1 HL1
    go_wp2_with fail
    refine (refCircles_any w2 q c n l HL2 hn (by omega)).mono ?_
    rintro e w6 ⟨qb, cb, K2, rfl, hkb, _, hkn2, hb6⟩
    obtain rfl : K2 = K := hkn2.one HK.out (fun a b => Iff.rfl)
    have HKA6 := Mm.hid (HKA.out.below hb6)
    have HKB6 := Mm.hid hkb
    have HB6 := Mm.hid (Mm.belTr HB2.out (Nat.le_refl _) hb6)
    have HE6 := Mm.hid (HE2.out.below hb6)
    have HL6 := Mm.hid (HL2.out.below hb6)
    clear hkb hkn2 hb6 HE2 HL2 HB2 HKA
    obtain ⟨M, hM⟩ : ∃ M, M = K2.length := ⟨_, rfl⟩
    rw [← hM] at hK1 ⊢
    have HM := Mm.hid hM
    have hMM : ((M : Int) != (M : Int)) = false := by simp
    clear hM
    go_wp2_with fail
    go_loopw [6] (fun v wq => ∃ j : Nat, j ≤ M ∧ v = .int .i64 (j : Int) ∧ Hid (Below w6.heap.size w6 wq)) (fun v _ => M - (RowKit.intOf v).toNat)
    case atStart => exact ⟨0, by omega, rfl, Mm.hid (Below.refl _ _)⟩
    case round =>
      obtain ⟨j, hj, rfl, HBq⟩ := hrel
      rename World => wq
      by_cases hjm : j < M
      · obtain ⟨kk, hkk⟩ : ∃ kk, K2[j]? = some kk := ⟨_, List.getElem?_eq_getElem (by rw [← HM.out]; exact hjm)⟩
        obtain ⟨ba, oa, ga, cga, rfl, hal, ha1, ha2, hag, ha3⟩ := (HKA6.out.below HBq.out) j kk hkk
        obtain ⟨bb, ob, gb, cgb, rfl, hbl, hb1, hb2, hbg, hb3⟩ := (HKB6.out.below HBq.out) j kk hkk
        have hkl := Mm.knot_len HK.out (List.mem_of_getElem? hkk)
        have HIA : Hid (Mm.IIn wq (some ⟨ga, 0, none⟩) kk) := Mm.hid (fun i x hx => ⟨ga, 0, rfl, hag, by rw [Nat.zero_add]; exact ha3 i x hx⟩)
        have HIB : Hid (Mm.IIn wq (some ⟨gb, 0, none⟩) kk) := Mm.hid (fun i x hx => ⟨gb, 0, rfl, hbg, by rw [Nat.zero_add]; exact hb3 i x hx⟩)
        have HINT : Hid (∀ (W : World), Below wq.heap.size wq W → Calls Try.prog 10 #[.slice (some ⟨ga, 0, none⟩) kk.length cga, .slice (some ⟨gb, 0, none⟩) kk.length cgb] W fun e w' => e = .returned (.bool true) ∧ Below W.heap.size W w') := Mm.hid (fun (W : World) (hW : Below wq.heap.size wq W) => (ints_any kk kk (some ⟨ga, 0, none⟩) (some ⟨gb, 0, none⟩) cga cgb W (Mm.hid (HIA.out.below hW)) (Mm.hid (HIB.out.below hW)) (by have := hn.out; omega)).mono (fun _ _ h => ⟨h.1.trans (by rw [decide_eq_true rfl]), h.2⟩))
        obtain ⟨m, hm⟩ : ∃ m, m = kk.length := ⟨_, rfl⟩
        rw [← hm] at ha1 ha2 hb1 hb2 HINT
        have HBL := Mm.hid (And.intro hal hbl)
        have HS : Hid (Mm.S2 ba (oa + j) (.slice (some ⟨ga, 0, none⟩) m cga) bb (ob + j) (.slice (some ⟨gb, 0, none⟩) m cgb) wq wq.drew) := Mm.hid ⟨ha1, hb1, (Below.refl _ _).drew⟩
        clear ha3 hb3 hkl hm hkk hal hbl hag hbg
        go_wp2_with fail
        go_region_held3 (fun w' => w'.cell? ⟨ba, oa + j, none⟩ = some (.slice (some ⟨ga, 0, none⟩) m cga) ∧ w'.cell? ⟨bb, ob + j, none⟩ = some (.slice (some ⟨gb, 0, none⟩) m cgb) ∧ Below wq.heap.size wq w')
          (first | exact HS.out | exact Mm.S2.keep HBL.out hb (by assumption))
          ((go_at_call 10; refine (HINT.out _ (Mm.S2.bel (b1 := ba) (o1 := oa + j) (v1 := .slice (some ⟨ga, 0, none⟩) m cga) (b2 := bb) (o2 := ob + j) (v2 := .slice (some ⟨gb, 0, none⟩) m cgb) (by first | assumption | exact HS.out))).mono ?_; rintro e w' ⟨rfl, hb⟩))
        all_goals
          have hbw : Below wq.heap.size wq w' := Mm.S2.bel (b1 := ba) (o1 := oa + j) (v1 := .slice (some ⟨ga, 0, none⟩) m cga) (b2 := bb) (o2 := ob + j) (v2 := .slice (some ⟨gb, 0, none⟩) m cgb) (by assumption)
          have HBW := Mm.hid hbw
          clear hbw
          go_wp2_with fail
          exact ⟨⟨j + 1, by omega, by go_num, Mm.hid (Mm.belTr HBq.out (Nat.le_refl _) HBW.out)⟩, by simp [RowKit.intOf]; omega⟩
      · obtain rfl : j = M := by omega
        have HE7 := Mm.hid (HE6.out.below HBq.out)
        have HL7 := Mm.hid (HL6.out.below HBq.out)
        have HB7 := Mm.hid (Mm.belTr HB6.out (Nat.le_refl _) HBq.out)
        clear HE6 HL6 HB6 HBq HKA6 HKB6
        go_wp2_with fail
        refine (victim_any wq q1 c1 l n HE7 hn (by omega)).mono ?_
        rintro e w8 ⟨v, ok, Kv, rfl, hkv, hv, hb8⟩
        have HV := Mm.hid (And.intro hkv hv)
        have HE8 := Mm.hid (HE7.out.below hb8)
        have HL8 := Mm.hid (HL7.out.below hb8)
        have HB8 := Mm.hid (Mm.belTr HB7.out (Nat.le_refl _) hb8)
        clear hkv hv hb8 HE7 HL7 HB7
        go_wp2_with fail
        refine (refVictim_any w8 q c n l HL8 hn (by omega)).mono ?_
        rintro e w9 ⟨v2, ok2, Kv2, rfl, hkv2, hv2, hb9⟩
        obtain rfl : Kv2 = Kv := hkv2.one HV.out.1 (fun a b => Iff.rfl)
        obtain ⟨rfl, rfl⟩ := HV.out.2.one hv2
        have HE9 := Mm.hid (HE8.out.below hb9)
        have HL9 := Mm.hid (HL8.out.below hb9)
        have HB9 := Mm.hid (Mm.belTr HB8.out (Nat.le_refl _) hb9)
        clear hkv2 hv2 hb9 HE8 HL8 HB8 HV
        go_wp2_with fail
        go_loopw [11] (fun v11 wr => ∃ j : Nat, j ≤ n ∧ v11 = .int .i64 (j : Int) ∧ Hid (Below w9.heap.size w9 wr)) (fun v11 _ => n - (RowKit.intOf v11).toNat)
        case atStart => exact ⟨0, by omega, rfl, Mm.hid (Below.refl _ _)⟩
        case round =>
          obtain ⟨i, hi, rfl, HBr⟩ := hrel
          rename World => wr
          by_cases hin : i < n
          · obtain ⟨e, he⟩ : ∃ e, l[i]? = some e := ⟨_, List.getElem?_eq_getElem (by rw [← hn.out]; exact hin)⟩
            obtain ⟨x, y⟩ := e
            obtain ⟨b1, o1, e1, _, d1, d2⟩ := (HE9.out.below HBr.out) i (x, y) he
            obtain ⟨b2, o2, e2, _, d3, d4⟩ := (HL9.out.below HBr.out) i (x, y) he
            subst e1
            subst e2
            simp only at d1 d2 d3 d4
            have gi0 : (0 : Int) ≤ (i : Int) := by omega
            have gi1 : (i : Int) < (n : Int) := by omega
            clear he
            have heq := fun nn => eqPair (wr.drewN nn) x y
            go_wp2_with fail
            go_quiet (fail)
            go_wp2_with fail
            exact ⟨⟨i + 1, by omega, by go_num, Mm.belDN HBr.out _⟩, by simp [RowKit.intOf]; omega⟩
          · obtain rfl : i = n := by omega
            have HE10 := Mm.hid (HE9.out.below HBr.out)
            have HL10 := Mm.hid (HL9.out.below HBr.out)
            have HB10 := Mm.hid (Mm.belTr HB9.out (Nat.le_refl _) HBr.out)
            clear HE9 HL9 HB9 HBr
            go_wp2_with fail
            refine (free_any wr q1 c1 l i HE10 hn (by omega)).mono ?_
            rintro e w11 ⟨q5, c5, f, rfl, hi5, hf1, hf, hb11⟩
            have HF := Mm.hid hf
            have HI5 := Mm.hid hi5
            have HL11 := Mm.hid (HL10.out.below hb11)
            have HB11 := Mm.hid (Mm.belTr HB10.out (Nat.le_refl _) hb11)
            clear hf hi5 hb11 HE10 HL10 HB10
            go_wp2_with fail
            refine (refFree_any w11 q c i l HL11 hn (by omega)).mono ?_
            rintro e w12 ⟨q6, c6, f2, rfl, hi6, _, hf2, hb12⟩
            obtain rfl : f2 = f := hf2.one HF.out
            have HI6 := Mm.hid hi6
            have HI5b := Mm.hid (HI5.out.below hb12)
            have HB12 := Mm.hid (Mm.belTr HB11.out (Nat.le_refl _) hb12)
            have HINT : Hid (Calls Try.prog 10 #[.slice q5 f2.length c5, .slice q6 f2.length c6] w12 fun e w' => e = .returned (.bool true) ∧ Below w12.heap.size w12 w') := Mm.hid ((ints_any f2 f2 q5 q6 c5 c6 w12 HI5b HI6 (by omega)).mono (fun _ _ h => ⟨h.1.trans (by rw [decide_eq_true rfl]), h.2⟩))
            obtain ⟨F, hF⟩ : ∃ F, F = f2.length := ⟨_, rfl⟩
            rw [← hF] at hf1 HINT ⊢
            clear hf2 hi6 hb12 HI5 HL11 HB11 hF
            go_wp2_with fail
            refine HINT.out.mono ?_
            rintro e w13 ⟨rfl, hb13⟩
            have HB13 := Mm.hid (Mm.belTr HB12.out (Nat.le_refl _) hb13)
            clear hb13
            go_wp2_with fail
            refine (wakes_tail w w13 HB13).mono ?_
            rintro e w14 ⟨rfl, hb⟩
            have HB14 := Mm.hid hb
            clear hb
            go_wp2_with fail
            go_ret
            exact ⟨rfl, HB14.out⟩

theorem waitTells_row (a : Option Addr) (l c : Nat) (z : Kn.El) (W : World) (b : Mm.Eds W a l c z) : Calls Try.prog 3 #[.slice a l c] W fun e w' => e = .returned (.bool true) ∧ Below W.heap.size W w' :=
  waitTells_law W a c z l (Mm.hid b.ein) (Mm.hid b.len.symm) (Mm.hid b.nil)
end Go.Proofs.Ythikdfcndppoaaa
