/- WaitEnds: the law walked. -/
import Derived.Test.YthikdfcndppoaaaWd0
namespace Go.Proofs.Ythikdfcndppoaaa
open Go.RowKit

namespace Mm
/-- Edges of which none leads from v. -/
def stayE (l : Kn.El) (v : Int) : Kn.El := l.filter (fun e => e.1 != v)
theorem stayE_yes {l : Kn.El} {v x y : Int} (h : x ≠ v) : stayE (l ++ [(x, y)]) v = stayE l v ++ [(x, y)] := by unfold stayE; rw [List.filter_append]; simp [h]
theorem stayE_no {l : Kn.El} {v x y : Int} (h : x = v) : stayE (l ++ [(x, y)]) v = stayE l v := by unfold stayE; rw [List.filter_append]; simp [h]
theorem stayE_lt {l : Kn.El} {v : Int} (h : ∃ e ∈ l, e.1 = v) : (stayE l v).length < l.length := by
  obtain ⟨e, he, h2⟩ := h
  unfold stayE
  refine Nat.lt_of_le_of_ne (List.length_filter_le _ _) (fun h3 => ?_)
  have := List.length_filter_eq_length_iff.1 h3 e he
  simp [h2] at this
theorem stayE_le (l : Kn.El) (v : Int) : (stayE l v).length ≤ l.length := List.length_filter_le _ _
end Mm

set_option maxRecDepth 100000 in
set_option maxHeartbeats 4000000 in
theorem waitEnds_law (w : World) (q : Option Addr) (c : Nat) (l : Kn.El) (n : Nat) (hl : Hid (Mm.EIn w q l)) (hn : Hid (n = l.length)) (hq : Hid (q = none → c = 0)) :
    Calls Try.prog 4 #[.slice q n c] w fun e w' => e = .returned (.bool true) ∧ Below w.heap.size w w' := by

  by_cases h30 : 30 < n
  · go_enter Try.func4, Try.ntmps4
    go_wp2_with fail
    refine (wakes_any w).mono ?_
    rintro e w1 ⟨rfl, hb⟩
    have HB := Mm.hid hb
    clear hb
    go_wp2
    go_ret
    exact ⟨rfl, HB.out⟩
  · have hn30 : n ≤ 30 := by omega

    go_enter Try.func4, Try.ntmps4
    go_wp2_with fail
    refine (few_any w q c n l hl hn (by omega) hq).mono ?_
    rintro e w1 ⟨v1, rfl, ho1, hb1⟩
    have HO1 := Mm.hid ho1
    have HB1 := Mm.hid hb1
    clear ho1 hb1
    go_wp2_with fail
    go_loopw [3, 4] (fun v3 v4 wr => ∃ (i : Nat) (L : Kn.El), L.length + i ≤ n ∧ v4 = .int .i64 (i : Int) ∧ Hid (Mm.EOwn wr w.heap.size v3 L) ∧ Hid (Below w.heap.size w wr)) (fun _ v4 _ => 100 - (RowKit.intOf v4).toNat)
    case atStart => exact ⟨0, l, by rw [hn.out]; exact Nat.le_refl _, rfl, HO1, HB1⟩
    case round =>
      obtain ⟨i, L, hi, rfl, HO, HB⟩ := hrel
      rename World => wr
      clear HO1 HB1
      obtain ⟨q1, c1, e1, hc1, he1, hq1, _⟩ := HO.out.ein
      obtain ⟨N, hN⟩ : ∃ N, N = L.length := ⟨_, rfl⟩
      rw [← hN] at e1 hc1 hi
      have hiN : i ≤ 30 := by omega
      have hNN : N ≤ 30 := by omega
      have HN := Mm.hid hN
      have HE1 := Mm.hid he1
      have HQ1 : Hid (q1 = none → c1 = 0) := Mm.hid (fun e => (hq1 e).2)
      clear he1 hq1 hN
      subst e1
      go_wp2_with fail
      refine (few_any wr q1 c1 N L HE1 HN (by omega) HQ1).mono ?_
      rintro e w2 ⟨v2, rfl, ho2, hb2⟩
      obtain ⟨q2, c2, e2, hc2, he2, _, _⟩ := ho2.ein
      rw [← HN.out] at e2 hc2
      subst e2
      have HE2 := Mm.hid he2
      have HB2 := Mm.hid (Mm.belTr HB.out (Nat.le_refl _) hb2)
      have HE12 := Mm.hid (HE1.out.below hb2)
      have HO2 := Mm.hid (HO.out.keep hb2)
      clear ho2 he2 hb2
      go_wp2_with fail
      refine (victim_any w2 q2 c2 L N HE2 HN (by omega)).mono ?_
      rintro e w3 ⟨v, ok, K, rfl, hkn, hv, hb3⟩
      have HK := Mm.hid (And.intro hkn hv)
      have HB3 := Mm.hid (Mm.belTr HB2.out (Nat.le_refl _) hb3)
      have HE3 := Mm.hid (HE12.out.below hb3)
      have HO3 := Mm.hid (HO2.out.keep hb3)
      have hv' := hv
      clear hkn hv hb3 HE2 HE12 HO2 HB2 HO HB
      by_cases hK : K = []
      · unfold Kn.IsVictim at hv'
        rw [if_pos hK] at hv'
        obtain ⟨rfl, rfl⟩ := hv'
        have HKE := Mm.hid hK
        clear hK
        have HFF := Mm.hid (fun (f : List Int) (hf : Kn.IsFree L f) => Kn.free_of_none (by have := HK.out.1; rwa [HKE.out] at this) hf)
        go_wp2_with fail
        refine (few_any w3 q1 c1 N L HE3 HN (by omega) HQ1).mono ?_
        rintro e w4 ⟨v4, rfl, ho4, hb4⟩
        obtain ⟨q4, c4, e4, hc4, he4, _, _⟩ := ho4.ein
        rw [← HN.out] at e4 hc4
        subst e4
        have HE4 := Mm.hid he4
        have HB4 := Mm.hid (Mm.belTr HB3.out (Nat.le_refl _) hb4)
        have HE14 := Mm.hid (HE3.out.below hb4)
        clear ho4 he4 hb4
        go_wp2_with fail
        refine (free_any w4 q4 c4 L N HE4 HN (by omega)).mono ?_
        rintro e w5 ⟨q5, c5, f, rfl, _, hf1, hf, hb5⟩
        have HF := Mm.hid (HFF.out f hf)
        have HB5 := Mm.hid (Mm.belTr HB4.out (Nat.le_refl _) hb5)
        have HE15 := Mm.hid (HE14.out.below hb5)
        obtain ⟨F, hF⟩ : ∃ F, F = f.length := ⟨_, rfl⟩
        rw [← hF] at hf1 ⊢
        have hFN : (N = 0 ↔ F = 0) := by
          rw [HN.out, hF, List.length_eq_zero_iff, List.length_eq_zero_iff]
          exact HF.out
        clear hf hb5 HE4 HB4 HE14 hF
        by_cases hN0 : N = 0
        · have hF0 : F = 0 := hFN.1 hN0
          clear hFN
          subst hN0
          subst hF0
          go_wp2_with fail
          refine (few_any w5 q1 c1 0 L HE15 HN (by omega) HQ1).mono ?_
          rintro e w6 ⟨v6, rfl, ho6, hb6⟩
          obtain ⟨q6, c6, e6, hc6, he6, _, _⟩ := ho6.ein
          rw [← HN.out] at e6 hc6
          subst e6
          have HE6 := Mm.hid he6
          have HB6 := Mm.hid (Mm.belTr HB5.out (Nat.le_refl _) hb6)
          clear ho6 he6 hb6
          go_wp2_with fail
          refine (circles_any w6 q6 c6 L 0 HE6 HN (by omega)).mono ?_
          rintro e w7 ⟨q7, c7, K7, rfl, _, _, hkn, hb7⟩
          obtain rfl : K7 = [] := (hkn.one HK.out.1 (fun _ _ => Iff.rfl)).trans HKE.out
          have HB7 := Mm.hid (Mm.belTr HB6.out (Nat.le_refl _) hb7)
          clear hkn hb7
          go_wp2_with fail
          refine (wakes_any w7).mono ?_
          rintro e w8 ⟨rfl, hb⟩
          have HB8 := Mm.hid (Mm.belTr HB7.out (Nat.le_refl _) hb)
          clear hb
          go_wp2_with fail
          go_ret
          exact ⟨rfl, HB8.out⟩
        · have hF0 : F ≠ 0 := fun h => hN0 (hFN.2 h)
          clear hFN
          have hbN : ((N : Int) == 0) = false := by simp; omega
          have hbF : ((F : Int) == 0) = false := by simp; omega
          have HN0 := Mm.hid (And.intro hN0 hF0)
          clear hN0 hF0
          go_wp2_with fail
          refine (few_any w5 q1 c1 N L HE15 HN (by omega) HQ1).mono ?_
          rintro e w6 ⟨v6, rfl, ho6, hb6⟩
          obtain ⟨q6, c6, e6, hc6, he6, _, _⟩ := ho6.ein
          rw [← HN.out] at e6 hc6
          subst e6
          have HE6 := Mm.hid he6
          have HB6 := Mm.hid (Mm.belTr HB5.out (Nat.le_refl _) hb6)
          clear ho6 he6 hb6
          go_wp2_with fail
          refine (circles_any w6 q6 c6 L N HE6 HN (by omega)).mono ?_
          rintro e w7 ⟨q7, c7, K7, rfl, _, _, hkn, hb7⟩
          obtain rfl : K7 = [] := (hkn.one HK.out.1 (fun _ _ => Iff.rfl)).trans HKE.out
          have HB7 := Mm.hid (Mm.belTr HB6.out (Nat.le_refl _) hb7)
          clear hkn hb7
          go_wp2_with fail
          refine (wakes_any w7).mono ?_
          rintro e w8 ⟨rfl, hb⟩
          have HB8 := Mm.hid (Mm.belTr HB7.out (Nat.le_refl _) hb)
          clear hb
          go_wp2_with fail
          go_ret
          exact ⟨rfl, HB8.out⟩
      · unfold Kn.IsVictim at hv'
        rw [if_neg hK] at hv'
        obtain ⟨rfl, ⟨kk, hkk, hvk⟩, _⟩ := hv'
        have HLT : Hid ((Mm.stayE L v).length < N) := Mm.hid (by rw [HN.out]; exact Mm.stayE_lt (HK.out.1.leads hkk hvk))
        clear hK hkk hvk
        have hw3z : Hid (w.heap.size ≤ w3.heap.size) := Mm.hid HB3.out.size
        go_wp2_with fail
        go_loopw [7, 8] (fun v7 v8 wq => ∃ k : Nat, k ≤ N ∧ v8 = .int .i64 (k : Int) ∧ Hid (Mm.EOwn wq w3.heap.size v7 (Mm.stayE (L.take k) v)) ∧ Hid (Below w3.heap.size w3 wq)) (fun _ v8 _ => N - (RowKit.intOf v8).toNat)
        case atStart => exact ⟨0, by omega, rfl, Mm.hid (Mm.EOwn.nil _ _), Mm.hid (Below.refl _ _)⟩
        case round =>
          obtain ⟨k, hk, rfl, HS, HBq⟩ := hrel
          rename World => wq
          by_cases hlt : k < N
          · obtain ⟨e, he⟩ : ∃ e, L[k]? = some e := ⟨_, List.getElem?_eq_getElem (by rw [← HN.out]; exact hlt)⟩
            obtain ⟨b, o, rfl, hbb, d1, d2⟩ := (HE3.out.below HBq.out) k e he
            obtain ⟨x, y⟩ := e
            have HX := Mm.hid he
            have HBB := Mm.hid hbb
            simp only at d1 d2
            clear he hbb
            by_cases hxv : x = v
            · have hbq : (x != v) = false := by simpa using hxv
              have HXV := Mm.hid hxv
              clear hxv
              go_wp2_with fail
              refine ⟨⟨k + 1, by omega, by go_num, Mm.hid ?_, HBq⟩, by simp [RowKit.intOf]; omega⟩
              rw [Mm.take_snoc' HX.out, Mm.stayE_no HXV.out]
              exact HS.out
            · have hbq : (x != v) = true := by simpa using hxv
              have HXV := Mm.hid hxv
              clear hxv
              have HLL : Hid ((Mm.stayE (L.take k) v).length ≤ 30) := Mm.hid (by have h1 := Mm.stayE_le (L.take k) v; have h2 := List.length_take_le k L; omega)
              go_wp2_with (at_builtin; refine Mm.appE (wq.alloc (.cells #[.int .i64 x, .int .i64 y] 31)) rfl _ _ rfl w3.heap.size u7 (Mm.stayE (L.take k) v) [(x, y)] rfl (HS.out.keep ((Below.refl _ _).alloc (Nat.le_refl _) _)) (some ⟨wq.heap.size, 0, none⟩) 1 rfl (Mm.einNew wq [(x, y)]) (fun e => nomatch e) (by have := HLL.out; simp; omega) (by have := HBq.out.size; simp; omega) ?_; intro v9 w9 hown9 hg9; have HX9 := Mm.hid (And.intro hown9 hg9); clear hown9 hg9)
              have hlo : ∀ g, u7.ownBlock = some g → w3.heap.size ≤ g := fun g hg => by
                rcases HS.out.2 with ⟨e, _⟩ | ⟨g', _, _, e, h2, _⟩
                · rw [e] at hg; cases hg
                · rw [e] at hg; injection hg with hg; rw [← hg]; exact h2
              refine ⟨⟨k + 1, by omega, by go_num, Mm.hid ?_, Mm.hid ((HBq.out.alloc HBq.out.size _).grown HX9.out.2 (by have := HBq.out.size; simp; omega) hlo)⟩, by simp [RowKit.intOf]; omega⟩
              rw [Mm.take_snoc' HX.out, Mm.stayE_yes HXV.out]
              exact HX9.out.1
          · obtain rfl : k = N := by omega
            have hS := HS.out
            rw [List.take_of_length_le (by rw [HN.out]; exact Nat.le_refl _)] at hS
            have HST := Mm.hid hS
            obtain ⟨q9, c9, e9, hc9, _, _, _⟩ := hS.ein
            obtain ⟨S, hS2⟩ : ∃ S, S = (Mm.stayE L v).length := ⟨_, rfl⟩
            rw [← hS2] at e9 hc9
            have hlt9 := HLT.out
            rw [← hS2] at hlt9
            have hne : ((S : Int) == (k : Int)) = false := by simp; omega
            have HS2 := Mm.hid hS2
            clear hS hS2 HS
            subst e9
            go_wp2_with fail
            refine ⟨⟨i + 1, Mm.stayE L v, by rw [← HS2.out]; omega, by go_num, Mm.hid ?_, Mm.hid (Mm.belTr HB3.out (Nat.le_refl _) HBq.out)⟩, by simp [RowKit.intOf]; omega⟩
            have h1 := HST.out
            obtain ⟨g0, g1 | ⟨g, cap, cur, g2, g3, g4⟩⟩ := h1
            · exact ⟨g0, Or.inl g1⟩
            · exact ⟨g0, Or.inr ⟨g, cap, cur, g2, Nat.le_trans hw3z.out g3, g4⟩⟩

theorem waitEnds_row (a : Option Addr) (l c : Nat) (z : Kn.El) (W : World) (b : Mm.Eds W a l c z) : Calls Try.prog 4 #[.slice a l c] W fun e w' => e = .returned (.bool true) ∧ Below W.heap.size W w' :=
  waitEnds_law W a c z l (Mm.hid b.ein) (Mm.hid b.len.symm) (Mm.hid b.nil)
end Go.Proofs.Ythikdfcndppoaaa
