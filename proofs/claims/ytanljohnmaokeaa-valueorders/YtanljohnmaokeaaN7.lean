/- value.Row. -/
import Derived.Test.YtanljohnmaokeaaN6
import Derived.Test.YtanljohnmaokeaaN3
import Derived.Test.YtanljohnmaokeaaShelf2
namespace Go.Proofs.Ytanljohnmaokeaa
open Go.RowKit
attribute [local go_sem] Fl.run_store_float

theorem Vl.bld_below {b : Nat} {T e : TypeId} {p : Value} {bs : List Value} {w w2 : World} (h : Lib.BuilderAt T e b b p bs w) (hb : Below w.heap.size w w2) : Lib.BuilderAt T e b b p bs w2 := by
  obtain ⟨h0, v, h1, h2, h3⟩ := h
  have hl : b < w.heap.size := by
    rcases Nat.lt_or_ge b w.heap.size with c | c
    · exact c
    · rw [Array.getElem?_eq_none c] at h1; cases h1
  exact ⟨h0, v, by rw [hb.block b hl]; exact h1, Vl.own_below h2 hb, h3⟩
theorem Vl.strCells_app (a b : ByteArray) : Lib.strCells (a ++ b) = Lib.strCells a ++ Lib.strCells b := by
  unfold Lib.strCells
  rw [show (a ++ b).data.toList = a.data.toList ++ b.data.toList from Vl.append_list a b, List.map_append]

set_option maxRecDepth 100000 in
set_option maxHeartbeats 2000000 in
theorem row_any (p : Option Addr) (n c : Nat) (xs : List Vl.V) (w : World) (hx : xs.length = n) (hn : n ≤ c) (hl : n ≤ 100000) (HF : Hid (∀ (j : Nat) (v : Vl.V), xs[j]? = some v → v.f < 18446744073709551616 ∧ v.s.size ≤ 2000)) (H : Hid (Vl.RowIn w p xs)) :
    Calls Try.prog 24 #[.slice p n c] w fun e w' => e = .returned (.tuple #[.string (Vl.rowT xs).1, .int .i64 (Vl.rowT xs).2]) ∧ Below w.heap.size w w' := by
  have HX := Vl.hid hx
  clear hx
  cases h6 : decide ((6 : Int) < (n : Int))
  · have hn6 : n ≤ 6 := by simp at h6; omega
    have hw8 : (n : Int) = (((UInt8.ofNat n).toNat : Nat) : Int) := by simp; omega
    have HW8 := Vl.hid hw8
    clear hw8
    have HRs : Hid (∀ s, Vl.rowAcc ⟨#[UInt8.ofNat n]⟩ xs = some s → Vl.rowT xs = (s, 0)) := Vl.hid (fun s h => by unfold Vl.rowT; rw [if_neg (by rw [HX.out]; omega), HX.out, h])
    have HRn : Hid (Vl.rowAcc ⟨#[UInt8.ofNat n]⟩ xs = none → Vl.rowT xs = (⟨#[]⟩, 11)) := Vl.hid (fun h => by unfold Vl.rowT; rw [if_neg (by rw [HX.out]; omega), HX.out, h])
    go_enter Try.func24, Try.ntmps24
    go_wp2_with fail
    refine (writeByte_fresh w.heap.size _ _ (by show (w.heap.push _)[w.heap.size]? = _; simp)).mono ?_
    rintro e w1 ⟨rfl, hbl, hb1⟩
    have HBL : Hid (Lib.BuilderAt 86 5 w.heap.size w.heap.size (.pointer (some ⟨w.heap.size, 0, none⟩)) (Lib.strCells ⟨#[UInt8.ofNat n]⟩) w1) := Vl.hid (by have e : Lib.strCells ⟨#[UInt8.ofNat n]⟩ = [.int .u8 (n : Int)] := by { show [Value.int .u8 _] = _; rw [← HW8.out] }; rw [e]; exact hbl)
    have HB1 : Hid (Below w.heap.size w w1) := Vl.hid ((Vl.bal (Below.refl _ _) _).trans hb1)
    clear hbl hb1
    go_wp2_with fail
    go_loopw [19] (fun vi wr => ∃ (k : Nat) (acc : ByteArray), k ≤ n ∧ vi = .int .i64 (k : Int) ∧ Hid (1 ≤ acc.size ∧ acc.size ≤ 1 + k * 301) ∧ Hid (Lib.BuilderAt 86 5 w.heap.size w.heap.size (.pointer (some ⟨w.heap.size, 0, none⟩)) (Lib.strCells acc) wr) ∧ Hid (Vl.rowAcc ⟨#[UInt8.ofNat n]⟩ xs = Vl.rowAcc acc (xs.drop k)) ∧ Hid (Below w.heap.size w wr)) (fun vi _ => n - (RowKit.intOf vi).toNat)
    case atStart => exact ⟨0, _, by omega, rfl, ⟨Nat.le_refl _, Nat.le_refl _⟩, HBL, rfl, HB1⟩
    case round =>
      obtain ⟨k, acc, hk1, rfl, HZ, HBD, HA, HB⟩ := hrel
      rename World => wr
      by_cases hlt : k < n
      · obtain ⟨v, hv⟩ : ∃ v, xs[k]? = some v := ⟨xs[k]'(by rw [HX.out]; exact hlt), List.getElem?_eq_getElem _⟩
        obtain ⟨b, o, hp, hb, hr⟩ := H.out.at hv
        obtain ⟨p0, p1, p2, p3⟩ := hr.below hb HB.out k v hv
        have hbr : b < wr.heap.size := Nat.lt_of_lt_of_le hb HB.out.size
        have HV := Vl.hid hv
        have HVF := Vl.hid (HF.out k v hv).1
        have hD := Vl.rowAcc_drop (acc := acc) hv
        clear hr hv
        subst hp
        cases hg : Vl.goodB v.k v.n v.f v.s
        · rw [hg, if_neg (by decide)] at hD
          have HD := Vl.hid hD
          have HG := Vl.hid hg
          clear hD hg
          go_wp2_with fail
          refine (encode_any v.k v.n v.f v.s _ HVF.out).mono ?_
          rintro e w2 ⟨rfl, hb2⟩
          have e1 : Vl.encR v.k v.n v.f v.s = ⟨#[]⟩ := by unfold Vl.encR; rw [HG.out]; rfl
          have e2 : Vl.encE v.k v.n v.f v.s = 11 := by unfold Vl.encE; rw [HG.out]; rfl
          rw [e1, e2]
          have HB2 := Vl.hid (Vl.btr (Vl.bal HB.out _) hb2)
          clear hb2 e1 e2
          go_wp2_with fail
          go_ret2
          exact ⟨by rw [HRn.out (by rw [HA.out, HD.out])]; rfl, HB2.out⟩
        · rw [hg, if_pos rfl] at hD
          have HD := Vl.hid hD
          have HG := Vl.hid hg
          have hes : (Vl.encS v.k v.n v.f v.s).size ≤ 301 := by rw [Vl.encS_size]; have := Vl.body_le hg; omega
          have HES := Vl.hid hes
          clear hD hg hes
          go_wp2_with fail
          refine (encode_any v.k v.n v.f v.s _ HVF.out).mono ?_
          rintro e w2 ⟨rfl, hb2⟩
          have e1 : Vl.encR v.k v.n v.f v.s = Vl.encS v.k v.n v.f v.s := by unfold Vl.encR; rw [HG.out]; rfl
          have e2 : Vl.encE v.k v.n v.f v.s = 0 := by unfold Vl.encE; rw [HG.out]; rfl
          rw [e1, e2]
          have HB2 := Vl.hid (Vl.btr (Vl.bal HB.out _) hb2)
          have HBD2 := Vl.hid (Vl.bld_below (Vl.bld_below HBD.out (Vl.bal (Below.refl _ _) _)) hb2)
          clear hb2 e1 e2
          go_wp2_with fail
          refine (writeString_used w.heap.size _ _ _ HBD2.out (by rw [Lib.strCells_length]; have := HZ.out.2; have := HES.out; omega) (by rw [Lib.strCells_length]; exact HZ.out.1)).mono ?_
          rintro e w3 ⟨rfl, hbd3, hb3⟩
          have HB3 := Vl.hid (HB2.out.trans hb3)
          have HBD3 := Vl.hid hbd3
          clear hbd3 hb3
          go_wp2_with fail
          exact ⟨⟨k + 1, acc ++ Vl.encS v.k v.n v.f v.s, by omega, by go_num, Vl.hid (by rw [ByteArray.size_append]; have := HZ.out; have := HES.out; omega), Vl.hid (by rw [Vl.strCells_app]; exact HBD3.out), HA.out.trans HD.out, HB3.out⟩, by simp [RowKit.intOf]; omega⟩
      · obtain rfl : k = n := by omega
        have hE : Vl.rowAcc acc (xs.drop k) = some acc := by rw [List.drop_of_length_le (by rw [HX.out]; exact Nat.le_refl _)]; rfl
        have HE := Vl.hid hE
        clear hE
        go_wp2_with fail
        refine (Try.Builder_String_any w.heap.size w.heap.size acc.data.toList _ (Or.inr HBD.out) HB.out.size).mono ?_
        rintro e w3 ⟨rfl, hb3⟩
        have HB3 := Vl.hid (HB.out.trans hb3)
        clear hb3
        go_wp2_with fail
        go_ret2
        exact ⟨by rw [HRs.out acc (by rw [HA.out, HE.out])]; rfl, HB3.out⟩
  · go_enter Try.func24, Try.ntmps24
    have e : Vl.rowT xs = (⟨#[]⟩, 3) := by unfold Vl.rowT; rw [if_pos (by rw [HX.out]; simp at h6; omega)]
    rw [e]
    go_wp2_with fail
    go_ret2
    exact ⟨rfl, Below.refl _ _⟩

end Go.Proofs.Ytanljohnmaokeaa
