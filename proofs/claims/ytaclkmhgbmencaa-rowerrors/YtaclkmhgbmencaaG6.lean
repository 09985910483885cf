/- The reference's Good. -/
import Derived.Test.YtaclkmhgbmencaaG3
import Derived.Test.YtaclkmhgbmencaaG4
namespace Go.Proofs.Ytaclkmhgbmencaa
open Go.RowKit
attribute [local go_sem] Fl.run_store_float

namespace Vl
theorem colB_k1 {c : Col} (h : decide (c.k < 1) = true) : colB c = false := by
  have : decide (1 ≤ c.k) = false := by simp at h ⊢; omega
  unfold colB; rw [this]; simp
theorem colB_k4 {c : Col} (h : decide (4 < c.k) = true) : colB c = false := by
  have : decide (c.k ≤ 4) = false := by simp at h ⊢; omega
  unfold colB; rw [this]; simp
theorem colB_nm {c : Col} (h : nameB c.nm = false) : colB c = false := by unfold colB; rw [h]; simp
theorem colB_d {c : Col} (h : goodB c.d.k c.d.n c.d.f c.d.s = false) : colB c = false := by unfold colB; rw [h]; simp
theorem colB_dk {c : Col} (h : (c.d.k != 0) = true) (h2 : (c.d.k != c.k) = true) : colB c = false := by
  have e1 : (c.d.k == 0) = false := by simpa using h
  have e2 : (c.d.k == c.k) = false := by simpa using h2
  unfold colB; rw [e1, e2]; simp
theorem colB_yes {c : Col} (h : nameB c.nm = true) (h1 : decide (c.k < 1) = false) (h4 : decide (4 < c.k) = false) (hg : goodB c.d.k c.d.n c.d.f c.d.s = true) (hd : (c.d.k != 0) = false ∨ (c.d.k != c.k) = false) : colB c = true := by
  have e1 : decide (1 ≤ c.k) = true := by simp at h1 ⊢; omega
  have e4 : decide (c.k ≤ 4) = true := by simp at h4 ⊢; omega
  unfold colB
  rw [h, e1, e4, hg]
  rcases hd with hd | hd
  · have : (c.d.k == 0) = true := by simpa using hd
    rw [this]; rfl
  · have : (c.d.k == c.k) = true := by simpa using hd
    rw [this]; simp
end Vl

set_option maxRecDepth 100000 in
set_option maxHeartbeats 4000000 in
theorem refGoodC_in (p : Option Addr) (n c : Nat) (cs : List Vl.Col) (w : World) (hx : cs.length = n) (hn : n ≤ c) (hm : n ≤ 6) (hm1 : 1 ≤ n) (H : Hid (Vl.ColIn w p cs)) :
    Calls Try.prog 13 #[.slice p n c] w fun e w' => e = .returned (.bool (Vl.colsB cs)) ∧ Below w.heap.size w w' := by
  have HX := Vl.hid hx
  have HM := Vl.hid (And.intro hm1 hm)
  clear hx
  have h1 : decide ((n : Int) < 1) = false := decide_eq_false (by omega)
  have h2 : decide ((6 : Int) < (n : Int)) = false := decide_eq_false (by omega)
  clear hm1
  go_enter Try.func13, Try.ntmps13
  go_wp2_with fail
  clear h1 h2
  go_loopw [3] (fun vi wr => ∃ k : Nat, k ≤ n ∧ vi = .int .i64 (k : Int) ∧ Hid (Vl.upB cs k) ∧ Hid (Below w.heap.size w wr)) (fun vi _ => n - (RowKit.intOf vi).toNat)
  case atStart => exact ⟨0, by omega, rfl, fun j _ h => absurd h (Nat.not_lt_zero j), Below.refl _ _⟩
  case round =>
    obtain ⟨k, hk1, rfl, HI, HB⟩ := hrel
    rename World => wr
    by_cases hlt : k < n
    · obtain ⟨v, hv⟩ : ∃ v, cs[k]? = some v := ⟨cs[k]'(by rw [HX.out]; exact hlt), List.getElem?_eq_getElem _⟩
      obtain ⟨b, o, hp, hr⟩ := (H.out.below HB.out).at hv
      obtain ⟨_, p0, p1, p2, p3, p4, p5, p6⟩ := hr
      have HV := Vl.hid hv
      clear hv
      subst hp
      have HN : Hid (n ≤ c ∧ n ≤ 100000) := Vl.hid ⟨hn, by omega⟩
      cases hN : Vl.nameB v.nm
      · have HE := Vl.hid (Vl.colsB_not HV.out (Or.inl (Vl.colB_nm hN)))
        go_wp2_with (first | (go_at_call 30; refine (refName_any _ _).mono ?_; rintro e w' ⟨rfl, hq⟩; obtain rfl := hq.symm; rw [hN]))
        go_ret
        exact ⟨by rw [HE.out]; rfl, Vl.bal HB.out _⟩
      · go_wp2_with fail
        refine (refName_any _ _).mono ?_
        rintro e w' ⟨rfl, hq⟩
        obtain rfl := hq.symm
        rw [hN]
        have HN2 := Vl.hid hN
        clear hN
        go_wp2_with fail
        refine (refFind_any (some ⟨b, o, none⟩) n c cs v.nm _ HX.out HN.out.1 HN.out.2 (Vl.hid ((H.out.below HB.out).al _))).mono ?_
        rintro e w1 ⟨rfl, hb⟩
        have HB1 := Vl.hid (Vl.btr (Vl.bal HB.out _) hb)
        have HV1 := Vl.hid ((Vl.C7.made v 27 (w := wr) rfl).below hb)
        clear hb p0 p1 p2 p3 p4 p5 p6
        obtain ⟨p0, p1, p2, p3, p4, p5, p6⟩ := HV1.out.box
        obtain ⟨f, HF⟩ : ∃ f, Hid (Vl.findN cs v.nm = f) := ⟨_, Vl.hid rfl⟩
        rw [HF.out]
        cases hf : (f != (k : Int))
        · have HFK : Hid (Vl.findN cs v.nm = (k : Int)) := Vl.hid (by rw [HF.out]; simpa using hf)
          cases hk0 : decide (v.k < 1)
          · cases hk4 : decide (4 < v.k)
            · cases hg : Vl.goodB v.d.k v.d.n v.d.f v.d.s
              · have HE := Vl.hid (Vl.colsB_not HV.out (Or.inl (Vl.colB_d hg)))
                go_wp2_with (first | (go_at_call 26; refine (refGood_any _ _ _ _ _).mono ?_; rintro e w2 ⟨rfl, hb⟩; rw [hg]))
                go_ret
                exact ⟨by rw [HE.out]; rfl, Vl.btr HB1.out hb⟩
              · go_wp2_with fail
                refine (refGood_any _ _ _ _ _).mono ?_
                rintro e w2 ⟨rfl, hb⟩
                rw [hg]
                have HB2 := Vl.hid (Vl.btr HB1.out hb)
                have HV2 := Vl.hid (HV1.out.below hb)
                clear hb p0 p1 p2 p3 p4 p5 p6
                obtain ⟨p0, p1, p2, p3, p4, p5, p6⟩ := HV2.out.box
                cases hd0 : (v.d.k != 0)
                · have HY := Vl.hid (Vl.colB_yes HN2.out hk0 hk4 hg (Or.inl hd0))
                  clear hg
                  go_wp2_with fail
                  refine ⟨⟨k + 1, by omega, by go_num, fun j u hj hu => ?_, HB2.out⟩, by simp [RowKit.intOf]; omega⟩
                  by_cases e : j = k
                  · subst e
                    rw [HV.out] at hu
                    cases hu
                    exact ⟨HY.out, HFK.out⟩
                  · exact HI.out j u (by omega) hu
                · cases hd1 : (v.d.k != v.k)
                  · have HY := Vl.hid (Vl.colB_yes HN2.out hk0 hk4 hg (Or.inr hd1))
                    clear hg
                    go_wp2_with fail
                    refine ⟨⟨k + 1, by omega, by go_num, fun j u hj hu => ?_, HB2.out⟩, by simp [RowKit.intOf]; omega⟩
                    by_cases e : j = k
                    · subst e
                      rw [HV.out] at hu
                      cases hu
                      exact ⟨HY.out, HFK.out⟩
                    · exact HI.out j u (by omega) hu
                  · have HE := Vl.hid (Vl.colsB_not HV.out (Or.inl (Vl.colB_dk hd0 hd1)))
                    clear hg
                    go_wp2_with fail
                    go_ret
                    exact ⟨by rw [HE.out]; rfl, HB2.out⟩
            · have HE := Vl.hid (Vl.colsB_not HV.out (Or.inl (Vl.colB_k4 hk4)))
              go_wp2_with fail
              go_ret
              exact ⟨by rw [HE.out]; rfl, HB1.out⟩
          · have HE := Vl.hid (Vl.colsB_not HV.out (Or.inl (Vl.colB_k1 hk0)))
            go_wp2_with fail
            go_ret
            exact ⟨by rw [HE.out]; rfl, HB1.out⟩
        · have HE := Vl.hid (Vl.colsB_not HV.out (Or.inr (by rw [HF.out]; simpa using hf)))
          go_wp2_with fail
          go_ret
          exact ⟨by rw [HE.out]; rfl, HB1.out⟩
    · obtain rfl : k = n := by omega
      have HE := Vl.hid (Vl.colsB_all (by rw [HX.out]; exact HM.out.1) (by rw [HX.out]; exact HM.out.2) (by rw [HX.out]; exact HI.out))
      go_wp2_with fail
      go_ret
      exact ⟨by rw [HE.out]; rfl, HB.out⟩

set_option maxRecDepth 100000 in
set_option maxHeartbeats 2000000 in
theorem refGoodC_any (p : Option Addr) (n c : Nat) (cs : List Vl.Col) (w : World) (hx : cs.length = n) (hn : n ≤ c) (H : Hid (Vl.ColIn w p cs)) :
    Calls Try.prog 13 #[.slice p n c] w fun e w' => e = .returned (.bool (Vl.colsB cs)) ∧ Below w.heap.size w w' := by
  by_cases h0 : n < 1
  · have HE := Vl.hid (Vl.colsB_len (cs := cs) (Or.inl (by omega)))
    have h1 : decide ((n : Int) < 1) = true := decide_eq_true (by omega)
    clear hx h0
    go_enter Try.func13, Try.ntmps13
    go_wp2_with fail
    go_ret
    exact ⟨by rw [HE.out]; rfl, Below.refl _ _⟩
  · by_cases h6 : n ≤ 6
    · exact refGoodC_in p n c cs w hx hn h6 (by omega) H
    · have HE := Vl.hid (Vl.colsB_len (cs := cs) (Or.inr (by omega)))
      have h1 : decide ((n : Int) < 1) = false := decide_eq_false (by omega)
      have h2 : decide ((6 : Int) < (n : Int)) = true := decide_eq_true (by omega)
      clear hx h0 h6
      go_enter Try.func13, Try.ntmps13
      go_wp2_with fail
      go_ret
      exact ⟨by rw [HE.out]; rfl, Below.refl _ _⟩

end Go.Proofs.Ytaclkmhgbmencaa
