/- row.Good. -/
import Derived.Test.YtaclkmhgbmencaaG3
import Derived.Test.YtaclkmhgbmencaaG4
import Derived.WalkMore
namespace Go.Proofs.Ytaclkmhgbmencaa
open Go.RowKit
attribute [local go_sem] Fl.run_store_float

set_option maxRecDepth 100000 in
set_option maxHeartbeats 4000000 in
theorem goodC_in (p : Option Addr) (n c : Nat) (cs : List Vl.Col) (w : World) (hx : cs.length = n) (hn : n ≤ c) (hm : n ≤ 6) (hm1 : 1 ≤ n) (H : Hid (Vl.ColIn w p cs)) :
    Calls Try.prog 12 #[.slice p n c] w fun e w' => e = .returned (.bool (Vl.colsB cs)) ∧ Below w.heap.size w w' := by
  have HX := Vl.hid hx
  have HM := Vl.hid (And.intro hm1 hm)
  clear hx
  have h1 : ((n : Int) == 0) = false := beq_eq_false_iff_ne.2 (by omega)
  have h2 : decide ((6 : Int) < (n : Int)) = false := decide_eq_false (by omega)
  clear hm1
  go_enter Try.func12, Try.ntmps12
  go_wp2_with fail
  go_step3
  go_wp2_with fail
  go_step3
  go_wp2_with fail
  clear h1 h2
  go_loopw [3, 18] (fun vg vi wr => ∃ k : Nat, k ≤ n ∧ vi = .int .i64 (k : Int) ∧ vg = .bool true ∧ Hid (Vl.upB cs k) ∧ Hid (Below w.heap.size w wr)) (fun _ vi _ => n - (RowKit.intOf vi).toNat)
  case atStart => exact ⟨0, by omega, rfl, rfl, fun j _ h => absurd h (Nat.not_lt_zero j), Below.refl _ _⟩
  case round =>
    obtain ⟨k, hk1, rfl, rfl, HI, HB⟩ := hrel
    rename World => wr
    by_cases hlt : k < n
    · obtain ⟨v, hv⟩ : ∃ v, cs[k]? = some v := ⟨cs[k]'(by rw [HX.out]; exact hlt), List.getElem?_eq_getElem _⟩
      obtain ⟨b, o, hp, hr⟩ := (H.out.below HB.out).at hv
      obtain ⟨_, p0, p1, p2, p3, p4, p5, p6⟩ := hr
      have HV := Vl.hid hv
      clear hv
      subst hp
      cases hc : Vl.colB v
      · have HE := Vl.hid (Vl.colsB_not HV.out (Or.inl hc))
        go_wp2_with (first | (go_at_call 29; refine (alone_any v _).mono ?_; rintro e w1 ⟨rfl, hb⟩; rw [hc]))
        try rw [Exit.noGoto_ret]
        go_ret
        exact ⟨by rw [HE.out]; rfl, Vl.btr (Vl.bal HB.out _) hb⟩
      · have HC := Vl.hid hc
        go_wp2_with fail
        refine (alone_any v _).mono ?_
        rintro e w1 ⟨rfl, hb⟩
        rw [hc]
        have HB1 := Vl.hid (Vl.btr (Vl.bal HB.out _) hb)
        have HV1 := Vl.hid ((Vl.C7.made v 27 (w := wr) rfl).below hb)
        clear hb hc p0 p1 p2 p3 p4 p5 p6
        go_wp2_with fail
        go_loopw [3, 31] (fun vg vi wq => ∃ m : Nat, m ≤ k ∧ vi = .int .i64 (m : Int) ∧ vg = .bool true ∧ Hid (∀ (j : Nat) (d : Vl.Col), j < m → cs[j]? = some d → d.nm ≠ v.nm) ∧ Hid (Vl.C7 wq wr.heap.size 0 v) ∧ Hid (Below w.heap.size w wq)) (fun _ vi _ => k - (RowKit.intOf vi).toNat)
        case atStart => exact ⟨0, by omega, rfl, rfl, fun j _ h => absurd h (Nat.not_lt_zero j), HV1, HB1⟩
        case round =>
          obtain ⟨m, hm1, rfl, rfl, HI2, HC2, HB2⟩ := hrel
          rename World => wq
          by_cases hlt2 : m < k
          · obtain ⟨d, hd⟩ : ∃ d, cs[m]? = some d := ⟨cs[m]'(by rw [HX.out]; omega), List.getElem?_eq_getElem _⟩
            obtain ⟨b', o', hp', hr'⟩ := (H.out.below HB2.out).at hd
            cases hp'
            obtain ⟨_, r0, r1, r2, r3, r4, r5, r6⟩ := hr'
            obtain ⟨s0, _⟩ := HC2.out.box
            have hbl := HC2.out.lt
            have hne : wq.heap.size ≠ wr.heap.size := by omega
            have hne2 : wr.heap.size ≠ wq.heap.size := by omega
            have HD := Vl.hid hd
            clear hd
            cases ht : (d.nm.toList == v.nm.toList)
            · have HT : Hid (d.nm ≠ v.nm) := Vl.hid (by rw [Vl.streq] at ht; simpa using ht)
              have ht' : (d.nm.toList != v.nm.toList) = true := by simp [bne, ht]
              go_wp2_with fail
              refine ⟨⟨m + 1, by omega, by go_num, rfl, fun j u hj hu => ?_, HC2.out.al _, Vl.bal HB2.out _⟩, by simp [RowKit.intOf]; omega⟩
              by_cases e : j = m
              · subst e
                rw [HD.out] at hu
                cases hu
                exact HT.out
              · exact HI2.out j u (by omega) hu
            · have HT : Hid (d.nm = v.nm) := Vl.hid (by rw [Vl.streq] at ht; simpa using ht)
              have ht' : (d.nm.toList != v.nm.toList) = false := by simp [bne, ht]
              have HE := Vl.hid (Vl.colsB_not HV.out (Or.inr (by rw [Vl.findN_hit HD.out HT.out HI2.out]; omega)))
              go_wp2_with fail
              try rw [Exit.noGoto_ret]
              go_ret
              exact ⟨by rw [HE.out]; rfl, Vl.bal HB2.out _⟩
          · obtain rfl : m = k := by omega
            have HF := Vl.hid (Vl.findN_hit HV.out rfl HI2.out)
            go_wp2_with fail
            refine ⟨⟨m + 1, by omega, by go_num, rfl, fun j u hj hu => ?_, HB2.out⟩, by simp [RowKit.intOf]; omega⟩
            by_cases e : j = m
            · subst e
              rw [HV.out] at hu
              cases hu
              exact ⟨HC.out, HF.out⟩
            · exact HI.out j u (by omega) hu
    · obtain rfl : k = n := by omega
      have HE := Vl.hid (Vl.colsB_all (by rw [HX.out]; exact HM.out.1) (by rw [HX.out]; exact HM.out.2) (by rw [HX.out]; exact HI.out))
      go_wp2_with fail
      try rw [Exit.noGoto_ret]
      go_ret
      exact ⟨by rw [HE.out]; rfl, HB.out⟩

set_option maxRecDepth 100000 in
set_option maxHeartbeats 2000000 in
theorem goodC_any (p : Option Addr) (n c : Nat) (cs : List Vl.Col) (w : World) (hx : cs.length = n) (hn : n ≤ c) (hm : n ≤ 100000) (H : Hid (Vl.ColIn w p cs)) :
    Calls Try.prog 12 #[.slice p n c] w fun e w' => e = .returned (.bool (Vl.colsB cs)) ∧ Below w.heap.size w w' := by
  by_cases h0 : n = 0
  · subst h0
    have HE := Vl.hid (Vl.colsB_len (cs := cs) (Or.inl (by omega)))
    clear hx
    go_enter Try.func12, Try.ntmps12
    go_wp2_with fail
    go_step3
    go_wp2_with fail
    try rw [Exit.noGoto_ret]
    go_ret
    exact ⟨by rw [HE.out]; rfl, Below.refl _ _⟩
  · by_cases h6 : n ≤ 6
    · exact goodC_in p n c cs w hx hn h6 (by omega) H
    · have HE := Vl.hid (Vl.colsB_len (cs := cs) (Or.inr (by omega)))
      have h1 : ((n : Int) == 0) = false := beq_eq_false_iff_ne.2 (by omega)
      have h2 : decide ((6 : Int) < (n : Int)) = true := decide_eq_true (by omega)
      clear hx h0 h6
      go_enter Try.func12, Try.ntmps12
      go_wp2_with fail
      go_step3
      go_wp2_with fail
      try rw [Exit.noGoto_ret]
      go_ret
      exact ⟨by rw [HE.out]; rfl, Below.refl _ _⟩

end Go.Proofs.Ytaclkmhgbmencaa
