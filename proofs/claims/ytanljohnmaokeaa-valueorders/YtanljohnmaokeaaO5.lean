/- CopyRows. -/
import Derived.Test.YtanljohnmaokeaaO4
import Derived.Test.YtanljohnmaokeaaOW
namespace Go.Proofs.Ytanljohnmaokeaa
open Go.RowKit
namespace Vl
/-- A row that lies at the head of a block of its own. -/
def RowH (w : World) (b : Nat) (xs : List V) : Prop := ∃ cur : Array Value, w.heap[b]? = some (.cells cur 24 (0, 0)) ∧ cur.toList.take (xs.length * 4) = cellsV xs
/-- The first k of sl are slices of copies of the first k rows. -/
def CopyAt (w : World) (sl : List Value) (rs : List (List V)) (k : Nat) : Prop := ∀ i xs, i < k → rs[i]? = some xs → ∃ b c, sl[i]? = some (.slice (some ⟨b, 0, none⟩) xs.length c) ∧ xs.length ≤ c ∧ RowH w b xs
theorem CopyAt.mono {w w' : World} {sl : List Value} {rs : List (List V)} {k : Nat} (h : CopyAt w sl rs k) (hk : ∀ (b : Nat) (cur : Array Value), w.heap[b]? = some (.cells cur 24 (0, 0)) → w'.heap[b]? = w.heap[b]?) : CopyAt w' sl rs k := fun i xs hi hx => by
  obtain ⟨b, c, h1, h2, cur, h3, h4⟩ := h i xs hi hx
  exact ⟨b, c, h1, h2, cur, by rw [hk b cur h3]; exact h3, h4⟩
theorem heap_lt {w : World} {b : Nat} {o : Obj} (h : w.heap[b]? = some o) : b < w.heap.size := by
  rcases Nat.lt_or_ge b w.heap.size with c | c
  · exact c
  · rw [Array.getElem?_eq_none c] at h; cases h
theorem CopyAt.below {w w' : World} {sl : List Value} {rs : List (List V)} {k : Nat} (h : CopyAt w sl rs k) (hB : Below w.heap.size w w') : CopyAt w' sl rs k := h.mono fun b _ hb => hB.block b (heap_lt hb)
theorem CopyAt.step {w : World} {sl : List Value} {rs : List (List V)} {k b c : Nat} {xs : List V} (h : CopyAt w sl rs k) (hl : sl.length = k) (hx : rs[k]? = some xs) (hc : xs.length ≤ c) (hr : RowH w b xs) : CopyAt w (sl ++ [.slice (some ⟨b, 0, none⟩) xs.length c]) rs (k + 1) := fun i ys hi hy => by
  by_cases e : i = k
  · subst e
    rw [hx] at hy
    cases hy
    exact ⟨b, c, by rw [List.getElem?_append_right (by omega), hl, Nat.sub_self]; rfl, hc, hr⟩
  · obtain ⟨b', c', h1, h2⟩ := h i ys (by omega) hy
    exact ⟨b', c', by rw [List.getElem?_append_left (by omega)]; exact h1, h2⟩
/-- What an append to a fresh row of values leaves. -/
theorem own_h {w : World} {base m : Nat} {v : Value} {xs : List V} (h : w.ownsRow base 24 4 v m (cellsV xs)) (hv : v ≠ .slice none 0 0) : ∃ b c, v = .slice (some ⟨b, 0, none⟩) m c ∧ xs.length = m ∧ m ≤ c ∧ base ≤ b ∧ RowH w b xs := by
  obtain ⟨h0, ⟨e1, _⟩ | ⟨g, cap, cur, e1, e2, e3, e4, _, _, e7⟩⟩ := h
  · exact absurd e1 hv
  · rw [cellsV_length] at h0
    have : xs.length = m := by omega
    exact ⟨g, cap, e1, this, e4, e2, cur, e3, by rw [this]; exact e7⟩
end Vl

set_option maxRecDepth 100000 in
set_option maxHeartbeats 2000000 in
theorem copyRows_any (p : Option Addr) (n c : Nat) (rs : List (List Vl.V)) (w : World) (hx : rs.length = n) (hn : n ≤ c) (hn40 : n ≤ 1000) (HM : Hid (∀ (j : Nat) (xs : List Vl.V), rs[j]? = some xs → xs.length ≤ 1000)) (H : Hid (Vl.RsIn w p rs)) :
    Calls Try.prog 30 #[.slice p n c] w fun e w' => ∃ v sl, e = .returned v ∧ w'.ownsRow w.heap.size 42 1 v n sl ∧ Vl.CopyAt w' sl rs n ∧ Below w.heap.size w w' := by
  obtain ⟨i24, hi, hz0, hz1, hz2⟩ : ∃ i, Try.prog.info? 24 = some i ∧ i.zero = some (.agg #[.int .i64 0, .int .i64 0, .float .f64 0, .string ⟨#[]⟩]) ∧ i.size = 4 ∧ i.bytes = 40 := ⟨_, Try.type24, rfl, rfl, rfl⟩
  obtain ⟨i42, ji, jz0, jz1, jz2⟩ : ∃ i, Try.prog.info? 42 = some i ∧ i.zero = some (.slice none 0 0) ∧ i.size = 1 ∧ i.bytes = 24 := ⟨_, Try.type42, rfl, rfl, rfl⟩
  have HX := Vl.hid hx
  clear hx
  go_enter Try.func30, Try.ntmps30
  go_wp2_with fail
  go_loopw [3, 4] (fun vl vi wr => ∃ (k : Nat) (sl : List Value), k ≤ n ∧ vi = .int .i64 (k : Int) ∧ Hid (wr.ownsRow w.heap.size 42 1 vl k sl) ∧ Hid (Vl.CopyAt wr sl rs k) ∧ Hid (Below w.heap.size w wr)) (fun _ vi _ => n - (RowKit.intOf vi).toNat)
  case atStart => exact ⟨0, [], by omega, rfl, ⟨rfl, Or.inl ⟨rfl, rfl⟩⟩, fun i xs h => absurd h (Nat.not_lt_zero i), Below.refl _ _⟩
  case round =>
    obtain ⟨k, sl, hk, rfl, HO, HC, HB⟩ := hrel
    rename World => wr
    obtain ⟨pv, cv, rfl⟩ : ∃ pv cv, u3 = .slice pv k cv := by
      rcases HO.out.2 with ⟨e, e2⟩ | ⟨g, cap, cur, e, _⟩
      · exact ⟨none, 0, by rw [e, e2]⟩
      · exact ⟨_, _, e⟩
    by_cases hlt : k < n
    · obtain ⟨xs, hv⟩ : ∃ xs, rs[k]? = some xs := ⟨rs[k]'(by rw [HX.out]; exact hlt), List.getElem?_eq_getElem _⟩
      obtain ⟨B, O, hp, hb, hr⟩ := H.out.at hv
      obtain ⟨q, cq, hq1, hq2, hq3, hq4⟩ := hr.below hb HB.out k xs hv
      obtain ⟨m, hm⟩ : ∃ m, m = xs.length := ⟨_, rfl⟩
      rw [← hm] at hq1 hq2 hq3
      have hbr : B < wr.heap.size := Nat.lt_of_lt_of_le hb HB.out.size
      have HM2 := Vl.hid hm
      have hm1 : m ≤ 1000 := by rw [hm]; exact HM.out k xs hv
      have HV := Vl.hid hv
      have HQ := Vl.hid hq4
      have HQ3 := Vl.hid hq3
      clear hr hv hq3 hq4 hm
      subst hp
      cases q with
      | none =>
        obtain ⟨rfl, rfl⟩ := HQ3.out rfl
        have HBW : Hid (Below w.heap.size w (wr.alloc (.cells #[] 24))) := Vl.hid (Vl.bal HB.out _)
        have HO2 : Hid ((wr.alloc (.cells #[] 24)).ownsRow w.heap.size 42 1 (.slice pv k cv) k sl) := Vl.hid (HO.out.alloc _)
        have HC2 : Hid (Vl.CopyAt (wr.alloc (.cells #[] 24)) sl rs k) := Vl.hid (HC.out.below (Vl.bal (Below.refl _ _) _))
        have HR : Hid (Vl.RowH (wr.alloc (.cells #[] 24)) wr.heap.size xs) := Vl.hid ⟨#[], by show (wr.heap.push _)[wr.heap.size]? = _; simp, by rw [List.length_eq_zero_iff.1 HM2.out.symm]; rfl⟩
        have HCC : Hid (0 ≤ 0) := Vl.hid (Nat.le_refl _)
        have HD1 : Hid (∀ (j : Nat) (u : Value), ([(.slice (some ⟨wr.heap.size, 0, none⟩) 0 0)] : List Value)[j]? = some u → ((wr.alloc (.cells #[] 24)).alloc (.cells #[(.slice (some ⟨wr.heap.size, 0, none⟩) 0 0)] 42)).cell? ((⟨wr.heap.size + 1, 0, none⟩ : Addr).add j) = some u) := Vl.hid (fun j u hj => by
          match j, hj with
          | 0, hj => simp at hj; subst hj; simp [Addr.add]
          | j + 1, hj => simp at hj)
        have HD2 : Hid (∀ u ∈ ([(.slice (some ⟨wr.heap.size, 0, none⟩) 0 0)] : List Value), u.oneCell' = true) := Vl.hid (fun u hu => by simp at hu; subst hu; rfl)
        have HD5 : Hid (w.heap.size ≤ ((wr.alloc (.cells #[] 24)).alloc (.cells #[(.slice (some ⟨wr.heap.size, 0, none⟩) 0 0)] 42)).heap.size) := Vl.hid (by have := HBW.out.size; have := (Vl.bal (Below.refl (wr.alloc (.cells #[] 24)).heap.size (wr.alloc (.cells #[] 24))) (.cells #[(.slice (some ⟨wr.heap.size, 0, none⟩) 0 0)] 42)).size; omega)
        go_wp2_with (at_builtin; refine wpList_append_own _ rfl _ _ 52 rfl w.heap.size 42 i42 (.slice none 0 0) 1 24 Try.underlying52 ji jz0 jz1 jz2 rfl (by decide) (.slice pv k cv) k sl rfl (HO2.out.alloc _) ⟨wr.heap.size + 1, 0, none⟩ 1 1 [(.slice (some ⟨wr.heap.size, 0, none⟩) 0 0)] rfl rfl HD1.out HD2.out (by unfold maxLen; omega) (by omega) HD5.out ?_)
        intro v3 w3 hown3 hgrow3 _
        have hA : Below ((wr.alloc (.cells #[] 24))).heap.size ((wr.alloc (.cells #[] 24))) (((wr.alloc (.cells #[] 24))).alloc (.cells #[(.slice (some ⟨wr.heap.size, 0, none⟩) 0 0)] 42)) := Vl.bal (Below.refl _ _) _
        have HB3 : Hid (Below w.heap.size w w3) := Vl.hid ((Vl.btr HBW.out hA).grown hgrow3 (by have := HBW.out.size; have := hA.size; omega) (fun j hj => (HO2.out.lt j hj).1))
        have hstep := ((HC2.out.below hA).mono (w' := w3) (fun b cur hb => hgrow3.block b (Vl.heap_lt hb) (fun e => Lib.ownBlock_ne (HO2.out.alloc _) hb (by decide) e.symm)))
        have hrow3 : Vl.RowH w3 wr.heap.size xs := by
          obtain ⟨cur, hr1, hr2⟩ := HR.out
          have hr1' := (hA.block _ (Vl.heap_lt hr1)).trans hr1
          exact ⟨cur, by rw [hgrow3.block _ (Vl.heap_lt hr1') (fun e => Lib.ownBlock_ne (HO2.out.alloc _) hr1' (by decide) e.symm)]; exact hr1', hr2⟩
        have hsl : sl.length = k := by have := HO.out.1; omega
        have HC3 := Vl.hid (hstep.step hsl HV.out (c := 0) (b := wr.heap.size) (by rw [← HM2.out]; exact HCC.out) hrow3)
        rw [← HM2.out] at HC3
        have HO3 := Vl.hid hown3
        clear hown3 hgrow3 hstep hrow3 hA
        go_wp2_with fail
        exact ⟨⟨k + 1, _, by omega, by go_num, HO3.out, HC3.out, HB3.out⟩, by simp [RowKit.intOf]; omega⟩
      | some a =>
        go_wp2_with (at_builtin; refine wpList_append_own _ rfl _ _ 42 rfl wr.heap.size 24 i24 (.agg #[.int .i64 0, .int .i64 0, .float .f64 0, .string ⟨#[]⟩]) 4 40 Try.underlying42 hi hz0 hz1 hz2 rfl (by decide) (.slice (some ⟨wr.heap.size, 0, none⟩) 0 0) 0 [] rfl ?c0 a m cq (Vl.cellsV xs) rfl ?c00 ?c1 ?c2 ?c3 ?c4 ?c5 ?_)
        case c0 => exact ⟨rfl, Or.inr ⟨wr.heap.size, 0, #[], rfl, Nat.le_refl _, by show (wr.heap.push _)[wr.heap.size]? = _; simp, Nat.le_refl _, Nat.zero_le _, rfl, rfl⟩⟩
        case c00 => rw [Vl.cellsV_length, HM2.out]
        case c1 => exact fun j u hj => (HQ.out.below (Vl.bal (Below.refl _ _) _)).cells j u hj
        case c2 => exact Vl.cellsV_one _
        case c3 => unfold maxLen; omega
        case c4 => omega
        case c5 => simp
        intro v' w2 hown' hgrow hiff
        have hB12 : Below wr.heap.size wr w2 := (Vl.bal (Below.refl _ _) _).grown hgrow (by simp) (fun j hj => by cases hj; exact Nat.le_refl _)
        obtain ⟨b2, c2, rfl, _, hc2, _, hrow⟩ := Vl.own_h hown' hiff
        have HBW := Vl.hid (Vl.btr HB.out hB12)
        have HO2 := Vl.hid (Vl.own_below HO.out hB12)
        have HC2 := Vl.hid (HC.out.below hB12)
        have HR := Vl.hid hrow
        have HCC := Vl.hid hc2
        clear hown' hgrow hiff hrow hc2 hB12
        have HD1 : Hid (∀ (j : Nat) (u : Value), ([(.slice (some ⟨b2, 0, none⟩) m c2)] : List Value)[j]? = some u → (w2.alloc (.cells #[(.slice (some ⟨b2, 0, none⟩) m c2)] 42)).cell? ((⟨w2.heap.size, 0, none⟩ : Addr).add j) = some u) := Vl.hid (fun j u hj => by
          match j, hj with
          | 0, hj => simp at hj; subst hj; simp [Addr.add]
          | j + 1, hj => simp at hj)
        have HD2 : Hid (∀ u ∈ ([(.slice (some ⟨b2, 0, none⟩) m c2)] : List Value), u.oneCell' = true) := Vl.hid (fun u hu => by simp at hu; subst hu; rfl)
        have HD5 : Hid (w.heap.size ≤ (w2.alloc (.cells #[(.slice (some ⟨b2, 0, none⟩) m c2)] 42)).heap.size) := Vl.hid (by have := HBW.out.size; have := (Vl.bal (Below.refl w2.heap.size w2) (.cells #[(.slice (some ⟨b2, 0, none⟩) m c2)] 42)).size; omega)
        go_wp2_with (at_builtin; refine wpList_append_own _ rfl _ _ 52 rfl w.heap.size 42 i42 (.slice none 0 0) 1 24 Try.underlying52 ji jz0 jz1 jz2 rfl (by decide) (.slice pv k cv) k sl rfl (HO2.out.alloc _) ⟨w2.heap.size, 0, none⟩ 1 1 [(.slice (some ⟨b2, 0, none⟩) m c2)] rfl rfl HD1.out HD2.out (by unfold maxLen; omega) (by omega) HD5.out ?_)
        intro v3 w3 hown3 hgrow3 _
        have hA : Below (w2).heap.size (w2) ((w2).alloc (.cells #[(.slice (some ⟨b2, 0, none⟩) m c2)] 42)) := Vl.bal (Below.refl _ _) _
        have HB3 : Hid (Below w.heap.size w w3) := Vl.hid ((Vl.btr HBW.out hA).grown hgrow3 (by have := HBW.out.size; have := hA.size; omega) (fun j hj => (HO2.out.lt j hj).1))
        have hstep := ((HC2.out.below hA).mono (w' := w3) (fun b cur hb => hgrow3.block b (Vl.heap_lt hb) (fun e => Lib.ownBlock_ne (HO2.out.alloc _) hb (by decide) e.symm)))
        have hrow3 : Vl.RowH w3 b2 xs := by
          obtain ⟨cur, hr1, hr2⟩ := HR.out
          have hr1' := (hA.block _ (Vl.heap_lt hr1)).trans hr1
          exact ⟨cur, by rw [hgrow3.block _ (Vl.heap_lt hr1') (fun e => Lib.ownBlock_ne (HO2.out.alloc _) hr1' (by decide) e.symm)]; exact hr1', hr2⟩
        have hsl : sl.length = k := by have := HO.out.1; omega
        have HC3 := Vl.hid (hstep.step hsl HV.out (c := c2) (b := b2) (by rw [← HM2.out]; exact HCC.out) hrow3)
        rw [← HM2.out] at HC3
        have HO3 := Vl.hid hown3
        clear hown3 hgrow3 hstep hrow3 hA
        go_wp2_with fail
        exact ⟨⟨k + 1, _, by omega, by go_num, HO3.out, HC3.out, HB3.out⟩, by simp [RowKit.intOf]; omega⟩
    · obtain rfl : k = n := by omega
      go_wp2_with fail
      go_ret
      exact ⟨_, sl, rfl, HO.out, HC.out, HB.out⟩

end Go.Proofs.Ytanljohnmaokeaa
