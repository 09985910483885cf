/- ValueRows: the walk. -/
import Derived.Test.YtanljohnmaokeaaN7
import Derived.Test.YtanljohnmaokeaaN2
import Derived.Test.YtanljohnmaokeaaX1
import Derived.Laws.AppendOwnNone
namespace Go.Proofs.Ytanljohnmaokeaa
open Go.RowKit
attribute [local go_sem] Fl.run_store_float

theorem Vl.RowIn.cells {w : World} {a : Addr} {xs : List Vl.V} (h : Vl.RowIn w (some a) xs) (j : Nat) (u : Value) (hj : (Vl.cellsV xs)[j]? = some u) : w.cell? (a.add j) = some u := by
  rcases h with h | ⟨b, o, e, _, hr⟩
  · rw [List.length_eq_zero_iff.1 h] at hj; simp [Vl.cellsV] at hj
  · cases e
    exact hr.cells j u hj

set_option maxRecDepth 100000 in
set_option maxHeartbeats 4000000 in
theorem rows_law (p : Option Addr) (n c : Nat) (xs : List Vl.V) (s : ByteArray) (w : World) (hx : xs.length = n) (hn : n ≤ c) (hnil : p = none → n = 0 ∧ c = 0) (H : Hid (Vl.RowIn w p xs)) (HF : Hid (∀ (j : Nat) (v : Vl.V), xs[j]? = some v → v.f < 18446744073709551616)) :
    Calls Try.prog 5 #[.slice p n c, .string s] w fun e w' => e = .returned (.bool true) ∧ Below w.heap.size w w' := by
  have HX := Vl.hid hx
  have HNIL := Vl.hid hnil
  clear hx hnil
  cases h1 : decide ((20000 : Int) < (s.size : Int))
  · have HS : Hid (s.size ≤ 100000) := Vl.hid (by simp at h1; omega)
    go_enter Try.func5, Try.ntmps5
    go_wp2_with fail
    refine (largeRow_any p n c xs _ HX.out hn H).mono ?_
    rintro e w1 ⟨b, rfl, hb, hB⟩
    have HB1 := Vl.hid hB
    have HB := Vl.hid hb
    clear hB hb
    cases b
    · obtain ⟨i24, hi, hz0, hz1, hz2⟩ : ∃ i, Try.prog.info? 24 = some i ∧ i.zero = some (.agg #[.int .i64 0, .int .i64 0, .float .f64 0, .string ⟨#[]⟩]) ∧ i.size = 4 ∧ i.bytes = 40 := ⟨_, Try.type24, rfl, rfl, rfl⟩
      have hn50 : n ≤ 50 := (HB.out rfl).1
      have HF2 : Hid (∀ (j : Nat) (v : Vl.V), xs[j]? = some v → v.f < 18446744073709551616 ∧ v.s.size ≤ 2000) := Vl.hid (fun j v hv => ⟨HF.out j v hv, (HB.out rfl).2 j v hv⟩)
      have H1 := Vl.hid (H.out.below HB1.out)
      obtain ⟨x, k, HT⟩ : ∃ x k, Hid (Vl.rowT xs = (x, k)) := ⟨_, _, Vl.hid rfl⟩
      have HT1 : Hid ((Vl.rowT xs).1 = x) := Vl.hid (by rw [HT.out])
      have HT2 : Hid ((Vl.rowT xs).2 = k) := Vl.hid (by rw [HT.out])
      obtain ⟨m, HM⟩ : ∃ m, Hid ((Vl.valsL s).length = m) := ⟨_, Vl.hid rfl⟩
      obtain ⟨z, HK⟩ : ∃ z, Hid (Vl.valsK s = z) := ⟨_, Vl.hid rfl⟩
      have hxx : (x.toList == x.toList) = true := by simp
      have hkk : (k == k) = true := by simp
      have hzz : (z == z) = true := by simp
      have HN := Vl.hid hn
      have HN100 : Hid (n ≤ 100000) := Vl.hid (by omega)
      clear HT
      cases p with
      | none =>
        obtain ⟨rfl, rfl⟩ := HNIL.out rfl
        clear hn hn50
        have HIN : Hid (Vl.RowIn (w1.alloc (.cells #[] 24)) (some ⟨w1.heap.size, 0, none⟩) xs) := Vl.hid (Or.inl HX.out)
        have HL : Hid (Vl.RowIn (w1.alloc (.cells #[] 24)) none xs) := Vl.hid (Or.inl HX.out)
        have HB2 : Hid (Below w.heap.size w (w1.alloc (.cells #[] 24))) := Vl.hid (Vl.bal HB1.out _)
        have HCIN : Hid (0 ≤ 0) := Vl.hid (Nat.le_refl _)
        go_wp2_with fail
        refine (row_any (some ⟨w1.heap.size, 0, none⟩) 0 0 xs _ HX.out HCIN.out HN100.out HF2 HIN).mono ?_
        rintro e w3 ⟨rfl, hb3⟩
        rw [HT1.out, HT2.out]
        have HB3 := Vl.hid (Vl.btr HB2.out hb3)
        have HIN3 := Vl.hid (HIN.out.below hb3)
        have HL3 := Vl.hid (HL.out.below hb3)
        clear hb3
        go_wp2_with fail
        refine (refRow_any none 0 0 xs _ HX.out HN.out HN100.out HF2 HL3).mono ?_
        rintro e w4 ⟨rfl, hb4⟩
        rw [HT1.out, HT2.out]
        have HB4 := Vl.hid (Vl.btr HB3.out hb4)
        have HIN4 := Vl.hid (HIN3.out.below hb4)
        have HL4 := Vl.hid (HL3.out.below hb4)
        clear hb4
        go_wp2_with fail
        refine (values_any s _ HS.out).mono ?_
        rintro e w5 ⟨pa, ca, rfl, ha1, ha2, ha3, hb5⟩
        rw [HM.out, HK.out]
        rw [HM.out] at ha1 ha2
        have HA := Vl.hid (And.intro ha1 (And.intro ha2 ha3))
        have HB5 := Vl.hid (Vl.btr HB4.out hb5)
        have HIN5 := Vl.hid (HIN4.out.below hb5)
        have HL5 := Vl.hid (HL4.out.below hb5)
        clear hb5 ha1 ha2 ha3
        go_wp2_with fail
        refine (refValues_any s _ HS.out).mono ?_
        rintro e w6 ⟨pb, cb, rfl, hd1, hd2, hd3, hb6⟩
        rw [HM.out, HK.out]
        rw [HM.out] at hd1 hd2
        have HD := Vl.hid (And.intro hd1 hd3)
        have HA6 := Vl.hid (HA.out.2.2.below hb6)
        have HB6 := Vl.hid (Vl.btr HB5.out hb6)
        have HIN6 := Vl.hid (HIN5.out.below hb6)
        have HL6 := Vl.hid (HL5.out.below hb6)
        clear hb6 hd1 hd2 hd3
        go_wp2_with fail
        refine (keepValues_same pa pb m ca cb (Vl.valsL s) _ HM.out (by have := HA.out.2.1; omega) HA.out.1 HD.out.1 HA6 (Vl.hid HD.out.2)).mono ?_
        rintro e w7 ⟨rfl, hb7⟩
        have HB7 := Vl.hid (Vl.btr HB6.out hb7)
        have HIN7 := Vl.hid (HIN6.out.below hb7)
        have HL7 := Vl.hid (HL6.out.below hb7)
        clear hb7
        go_wp2_with fail
        refine (keepValues_same (some ⟨w1.heap.size, 0, none⟩) none 0 0 0 xs _ HX.out HN100.out HCIN.out HN.out HIN7 HL7).mono ?_
        rintro e w8 ⟨rfl, hb8⟩
        have HB8 := Vl.hid (Vl.btr HB7.out hb8)
        clear hb8
        go_wp2_with (first | (go_at_call 10; refine (wakes_any _).mono ?_; rintro e w9 ⟨rfl, hb9⟩))
        go_ret
        exact ⟨rfl, Vl.btr HB8.out hb9⟩
      | some a =>
        go_wp2_with (at_builtin; refine wpList_append_own _ rfl _ _ 42 rfl w1.heap.size 24 i24 (.agg #[.int .i64 0, .int .i64 0, .float .f64 0, .string ⟨#[]⟩]) 4 40 Try.underlying42 hi hz0 hz1 hz2 rfl (by decide) (.slice (some ⟨w1.heap.size, 0, none⟩) 0 0) 0 [] rfl ?c0 a n c (Vl.cellsV xs) rfl ?c00 ?c1 ?c2 ?c3 ?c4 ?c5 ?_)
        case c0 => exact ⟨rfl, Or.inr ⟨w1.heap.size, 0, #[], rfl, Nat.le_refl _, by show (w1.heap.push _)[w1.heap.size]? = _; simp, Nat.le_refl _, Nat.zero_le _, rfl, rfl⟩⟩
        case c00 => rw [Vl.cellsV_length, HX.out]
        case c1 => exact fun j u hj => (H1.out.below (Vl.bal (Below.refl _ _) _)).cells j u hj
        case c2 => exact Vl.cellsV_one _
        case c3 => unfold maxLen; omega
        case c4 => omega
        case c5 => simp
        intro v' w2 hown' hgrow _
        have hB12 : Below w1.heap.size w1 w2 := (Vl.bal (Below.refl _ _) _).grown hgrow (by simp) (fun j hj => by cases hj; exact Nat.le_refl _)
        obtain ⟨pin, cin, rfl, _, hcin, hin⟩ := Vl.own_row hown'
        have HIN := Vl.hid hin
        have HCIN := Vl.hid hcin
        have HL := Vl.hid (H1.out.below hB12)
        have HB2 := Vl.hid (Vl.btr HB1.out hB12)
        clear hown' hgrow hin hcin hB12 hi hz0 hz1 hz2 hn50
        go_wp2_with fail
        refine (row_any pin n cin xs _ HX.out HCIN.out HN100.out HF2 HIN).mono ?_
        rintro e w3 ⟨rfl, hb3⟩
        rw [HT1.out, HT2.out]
        have HB3 := Vl.hid (Vl.btr HB2.out hb3)
        have HIN3 := Vl.hid (HIN.out.below hb3)
        have HL3 := Vl.hid (HL.out.below hb3)
        clear hb3
        go_wp2_with fail
        refine (refRow_any (some a) n c xs _ HX.out HN.out HN100.out HF2 HL3).mono ?_
        rintro e w4 ⟨rfl, hb4⟩
        rw [HT1.out, HT2.out]
        have HB4 := Vl.hid (Vl.btr HB3.out hb4)
        have HIN4 := Vl.hid (HIN3.out.below hb4)
        have HL4 := Vl.hid (HL3.out.below hb4)
        clear hb4
        go_wp2_with fail
        refine (values_any s _ HS.out).mono ?_
        rintro e w5 ⟨pa, ca, rfl, ha1, ha2, ha3, hb5⟩
        rw [HM.out, HK.out]
        rw [HM.out] at ha1 ha2
        have HA := Vl.hid (And.intro ha1 (And.intro ha2 ha3))
        have HB5 := Vl.hid (Vl.btr HB4.out hb5)
        have HIN5 := Vl.hid (HIN4.out.below hb5)
        have HL5 := Vl.hid (HL4.out.below hb5)
        clear hb5 ha1 ha2 ha3
        go_wp2_with fail
        refine (refValues_any s _ HS.out).mono ?_
        rintro e w6 ⟨pb, cb, rfl, hd1, hd2, hd3, hb6⟩
        rw [HM.out, HK.out]
        rw [HM.out] at hd1 hd2
        have HD := Vl.hid (And.intro hd1 hd3)
        have HA6 := Vl.hid (HA.out.2.2.below hb6)
        have HB6 := Vl.hid (Vl.btr HB5.out hb6)
        have HIN6 := Vl.hid (HIN5.out.below hb6)
        have HL6 := Vl.hid (HL5.out.below hb6)
        clear hb6 hd1 hd2 hd3
        go_wp2_with fail
        refine (keepValues_same pa pb m ca cb (Vl.valsL s) _ HM.out (by have := HA.out.2.1; omega) HA.out.1 HD.out.1 HA6 (Vl.hid HD.out.2)).mono ?_
        rintro e w7 ⟨rfl, hb7⟩
        have HB7 := Vl.hid (Vl.btr HB6.out hb7)
        have HIN7 := Vl.hid (HIN6.out.below hb7)
        have HL7 := Vl.hid (HL6.out.below hb7)
        clear hb7
        go_wp2_with fail
        refine (keepValues_same pin (some a) n cin c xs _ HX.out HN100.out HCIN.out HN.out HIN7 HL7).mono ?_
        rintro e w8 ⟨rfl, hb8⟩
        have HB8 := Vl.hid (Vl.btr HB7.out hb8)
        clear hb8
        go_wp2_with (first | (go_at_call 10; refine (wakes_any _).mono ?_; rintro e w9 ⟨rfl, hb9⟩))
        go_ret
        exact ⟨rfl, Vl.btr HB8.out hb9⟩
    · go_wp2_with (first | (go_at_call 10; refine (wakes_any _).mono ?_; rintro e w' ⟨rfl, hb⟩))
      go_ret
      exact ⟨rfl, Vl.btr HB1.out hb⟩
  · go_enter Try.func5, Try.ntmps5
    go_wp2_with (first | (go_at_call 10; refine (wakes_any _).mono ?_; rintro e w' ⟨rfl, hb⟩))
    go_ret
    exact ⟨rfl, hb⟩

end Go.Proofs.Ytanljohnmaokeaa
