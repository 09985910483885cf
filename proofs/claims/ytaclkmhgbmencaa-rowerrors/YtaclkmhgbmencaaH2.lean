/- The reference's Fill. -/
import Derived.Test.YtaclkmhgbmencaaG2
import Derived.Test.YtaclkmhgbmencaaH0
import Derived.Test.YtaclkmhgbmencaaG9
import Derived.Deep.RegionHeld3
namespace Go.Proofs.Ytaclkmhgbmencaa
open Go.RowKit
attribute [local go_sem] Fl.run_store_float

set_option maxRecDepth 100000 in
set_option maxHeartbeats 4000000 in
theorem refFill_any (p : Option Addr) (n c : Nat) (cs : List Vl.Col) (q : Option Addr) (m d : Nat) (xs : List Vl.V) (w : World) (hx : cs.length = n) (hn : n ≤ c) (hn1 : n ≤ 100000) (H : Hid (Vl.ColIn w p cs)) (hy : xs.length = m) (HR : Hid (Vl.RowIn w q xs)) :
    Calls Try.prog 19 #[.slice p n c, .slice q m d] w fun e w' => ∃ p' c', e = .returned (.tuple #[.slice p' (Vl.fillL cs xs).length c', .int .i64 (Vl.fillE cs xs)]) ∧ (Vl.fillL cs xs).length ≤ c' ∧ Vl.RowIn w' p' (Vl.fillL cs xs) ∧ Below w.heap.size w w' := by
  rcases (Classical.em (n < m)).symm with hc | hc
  · have HE0 : Hid (¬ cs.length < xs.length) := Vl.hid (by rw [hx, hy]; exact hc)
    have HX := Vl.hid hx
    have HY := Vl.hid hy
    have HYL : Hid ((Vl.padL cs xs).length = n) := Vl.hid (by rw [Vl.padL_length, hx])
    clear hx hy
    have HN := Vl.hid hn
    go_enter Try.func19, Try.ntmps19
    go_wp2_with fail
    refine (refPad_any p n c cs q m d xs _ HX.out HN.out hn1 H HY.out HR).mono ?_
    rintro e w1 ⟨p', c', rfl, hle, hrow, hb⟩
    obtain ⟨ys, HYS⟩ : ∃ ys, Hid (Vl.padL cs xs = ys) := ⟨_, Vl.hid rfl⟩
    rw [HYS.out] at hrow
    have HP := Vl.hid (And.intro hrow hb)
    skip
    have hlt1 : n ≤ c' := hle
    clear hrow hb hle hc
    go_wp2_with fail
    go_loopw [7] (fun vi wr => ∃ k : Nat, k ≤ n ∧ vi = .int .i64 (k : Int) ∧ Hid (∀ (j : Nat) (g : Vl.Col) (z : Vl.V), j < k → cs[j]? = some g → ys[j]? = some z → Vl.takesE g z = 0) ∧ Hid (Vl.RowIn wr p' ys) ∧ Hid (Below w.heap.size w wr)) (fun vi _ => n - (RowKit.intOf vi).toNat)
    case atStart => exact ⟨0, by omega, rfl, fun j _ _ h => absurd h (Nat.not_lt_zero j), HP.out.1, HP.out.2⟩
    case round =>
      obtain ⟨k, hk1, rfl, HI, HRW, HB⟩ := hrel
      rename World => wr
      clear HP
      by_cases hlt : k < n
      · obtain ⟨v, hv⟩ : ∃ v, cs[k]? = some v := ⟨cs[k]'(by rw [HX.out]; exact hlt), List.getElem?_eq_getElem _⟩
        obtain ⟨y, hyk⟩ : ∃ y, ys[k]? = some y := ⟨ys[k]'(by rw [← HYS.out, HYL.out]; exact hlt), List.getElem?_eq_getElem _⟩
        obtain ⟨b, o, hp, hr⟩ := (H.out.below HB.out).at hv
        obtain ⟨b2, o2, hp2, hr2⟩ := HRW.out.at hyk
        have HV := Vl.hid (And.intro hv hyk)
        obtain ⟨e, HT⟩ : ∃ e, Hid (Vl.takesE v y = e) := ⟨_, Vl.hid rfl⟩
        clear hv hyk
        subst hp hp2
        have HS : Hid (Vl.CVS b (o + k * 7) b2 (o2 + k * 4) v y wr wr) := Vl.hid (Vl.CVS.of hr hr2 (Below.refl _ _))
        clear hr hr2
        cases he : (e != 0)
        · go_wp2_with fail
          go_region_held3 (fun w' => w'.cell? ⟨b, o + k * 7, none⟩ = some (.string v.nm) ∧ w'.cell? ⟨b, o + k * 7 + 1, none⟩ = some (.int .i64 v.k) ∧ w'.cell? ⟨b, o + k * 7 + 2, none⟩ = some (.bool v.nn) ∧ w'.cell? ⟨b, o + k * 7 + 3, none⟩ = some (.int .i64 v.d.k) ∧ w'.cell? ⟨b, o + k * 7 + 4, none⟩ = some (.int .i64 v.d.n) ∧ w'.cell? ⟨b, o + k * 7 + 5, none⟩ = some (.float .f64 v.d.f) ∧ w'.cell? ⟨b, o + k * 7 + 6, none⟩ = some (.string v.d.s) ∧ w'.cell? ⟨b2, o2 + k * 4, none⟩ = some (.int .i64 y.k) ∧ w'.cell? ⟨b2, o2 + k * 4 + 1, none⟩ = some (.int .i64 y.n) ∧ w'.cell? ⟨b2, o2 + k * 4 + 2, none⟩ = some (.float .f64 y.f) ∧ w'.cell? ⟨b2, o2 + k * 4 + 3, none⟩ = some (.string y.s) ∧ b < w'.heap.size ∧ b2 < w'.heap.size ∧ Below wr.heap.size wr w')
            (first | exact Vl.CVS.drew HS.out | exact Vl.CVS.keep hb (by assumption))
            (first | (go_at_call 24; refine (refTakes_any v y _).mono ?_; rintro e2 w2 ⟨rfl, hb⟩; rw [HT.out]))
          rename World => wz
          have hz : Vl.CVS b (o + k * 7) b2 (o2 + k * 4) v y wr wz := by assumption
          have HB2 := Vl.hid (Vl.btr (HB.out) hz.b)
          have HR2 := Vl.hid (Vl.RowIn.below (HRW.out) hz.b)
          clear hz
          go_wp2_with fail
          refine ⟨⟨k + 1, by omega, by go_num, fun j g z hj hg hz => ?_, HR2.out, HB2.out⟩, by simp [RowKit.intOf]; omega⟩
          by_cases e1 : j = k
          · subst e1
            rw [HV.out.1] at hg
            rw [HV.out.2] at hz
            cases hg
            cases hz
            rw [HT.out]; simpa using he
          · exact HI.out j g z (by omega) hg hz
        · have HE := Vl.hid (Vl.fill_err (e := e) HE0.out (by rw [HYS.out, ← HT.out]; exact Vl.errL_stop cs ys k v y HV.out.1 HV.out.2 (by rw [HT.out]; simpa using he) HI.out) (by simpa using he))
          go_wp2_with fail
          go_region_held3 (fun w' => w'.cell? ⟨b, o + k * 7, none⟩ = some (.string v.nm) ∧ w'.cell? ⟨b, o + k * 7 + 1, none⟩ = some (.int .i64 v.k) ∧ w'.cell? ⟨b, o + k * 7 + 2, none⟩ = some (.bool v.nn) ∧ w'.cell? ⟨b, o + k * 7 + 3, none⟩ = some (.int .i64 v.d.k) ∧ w'.cell? ⟨b, o + k * 7 + 4, none⟩ = some (.int .i64 v.d.n) ∧ w'.cell? ⟨b, o + k * 7 + 5, none⟩ = some (.float .f64 v.d.f) ∧ w'.cell? ⟨b, o + k * 7 + 6, none⟩ = some (.string v.d.s) ∧ w'.cell? ⟨b2, o2 + k * 4, none⟩ = some (.int .i64 y.k) ∧ w'.cell? ⟨b2, o2 + k * 4 + 1, none⟩ = some (.int .i64 y.n) ∧ w'.cell? ⟨b2, o2 + k * 4 + 2, none⟩ = some (.float .f64 y.f) ∧ w'.cell? ⟨b2, o2 + k * 4 + 3, none⟩ = some (.string y.s) ∧ b < w'.heap.size ∧ b2 < w'.heap.size ∧ Below wr.heap.size wr w')
            (first | exact Vl.CVS.drew HS.out | exact Vl.CVS.keep hb (by assumption))
            (first | (go_at_call 24; refine (refTakes_any v y _).mono ?_; rintro e2 w2 ⟨rfl, hb⟩; rw [HT.out]))
          rename World => wz
          have hz : Vl.CVS b (o + k * 7) b2 (o2 + k * 4) v y wr wz := by assumption
          have HB2 := Vl.hid (Vl.btr (HB.out) hz.b)
          clear hz
          go_wp2_with fail
          go_ret2
          rw [HE.out.1, HE.out.2]
          exact ⟨none, 0, rfl, Nat.le_refl _, Vl.RowIn.none _ _, HB2.out⟩
      · obtain rfl : k = n := by omega
        have HE := Vl.hid (Vl.fill_ok HE0.out (by rw [HYS.out]; exact Vl.errL_none cs ys (fun j g z hg hz => HI.out j g z (by obtain ⟨t, _⟩ := List.getElem?_eq_some_iff.1 hg; rw [← HX.out]; exact t) hg hz)))
        go_wp2_with fail
        go_ret2
        rw [HE.out.1, HE.out.2, HYL.out, HYS.out]
        exact ⟨p', c', rfl, hlt1, HRW.out, HB.out⟩
  · have HE := Vl.hid (Vl.fill_many (cs := cs) (xs := xs) (by rw [hx, hy]; exact hc))
    clear hx hy
    go_enter Try.func19, Try.ntmps19
    go_wp2_with fail
    go_ret2
    rw [HE.out.1, HE.out.2]
    exact ⟨none, 0, rfl, Nat.le_refl _, Vl.RowIn.none _ _, Below.refl _ _⟩

end Go.Proofs.Ytaclkmhgbmencaa
