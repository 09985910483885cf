/- value.Values. -/
import Derived.Test.YtanljohnmaokeaaR3
import Derived.Test.YtanljohnmaokeaaM4
import Derived.Test.YtanljohnmaokeaaBackLaw
namespace Go.Proofs.Ytanljohnmaokeaa
open Go.RowKit Go.Sort
attribute [local go_sem] Fl.run_store_float
namespace Vl
/-- k values that stand in s from a on, one behind the other, and where they end. -/
def takeN (s : ByteArray) (a : Nat) : Nat → Option (List V × Nat)
  | 0 => some ([], a)
  | k + 1 => match takeN s a k with
    | none => none
    | some (l, b) => match dec s (b : Int) with
      | none => none
      | some g => some (l ++ [g.v], b + 1 + g.sz)
theorem takeN_no {s : ByteArray} {a k : Nat} (h : takeN s a k = none) : ∀ m, takeN s a (k + m) = none
  | 0 => h
  | m + 1 => by show (match takeN s a (k + m) with | none => none | some (l, b) => _) = none; rw [takeN_no h m]
theorem takeN_none {s : ByteArray} {a k n b : Nat} {l : List V} (h : takeN s a k = some (l, b)) (hd : dec s (b : Int) = none) (hk : k < n) : takeN s a n = none := by
  have h1 : takeN s a (k + 1) = none := by show (match takeN s a k with | none => none | some (l, b) => _) = none; rw [h]; show (match dec s (b : Int) with | none => none | some g => _) = none; rw [hd]
  have := takeN_no h1 (n - (k + 1))
  rwa [show k + 1 + (n - (k + 1)) = n from by omega] at this
theorem takeN_some {s : ByteArray} {a k b : Nat} {l : List V} {g : Got} (h : takeN s a k = some (l, b)) (hd : dec s (b : Int) = some g) : takeN s a (k + 1) = some (l ++ [g.v], b + 1 + g.sz) := by
  show (match takeN s a k with | none => none | some (l, b) => _) = _; rw [h]; show (match dec s (b : Int) with | none => none | some g => _) = _; rw [hd]
/-- The row whose bytes s is. -/
def valsT (s : ByteArray) : Option (List V) := if s.size = 0 ∨ 6 < cAt s 0 then none else match takeN s 1 (cAt s 0) with
  | none => none
  | some (l, b) => if b = s.size then some l else none
def valsL (s : ByteArray) : List V := (valsT s).getD []
def valsK (s : ByteArray) : Int := if (valsT s).isSome then 0 else 11
theorem valsL_none {s : ByteArray} (h : valsT s = none) : valsL s = [] ∧ valsK s = 11 := by unfold valsL valsK; rw [h]; exact ⟨rfl, rfl⟩
theorem valsL_some {s : ByteArray} {l : List V} (h : valsT s = some l) : valsL s = l ∧ valsK s = 0 := by unfold valsL valsK; rw [h]; exact ⟨rfl, rfl⟩
/-- One value more. -/
theorem rowStep {W : World} {G k : Nat} {ys : List V} (v : V) (hl : ys.length = k) (hr : RowAt W G 0 ys) (ex : ∀ i, i < 4 → ∃ x, W.cell? ⟨G, k * 4 + i, none⟩ = some x) :
    RowAt ((((W.setCell ⟨G, k * 4, none⟩ (.int .i64 v.k)).setCell ⟨G, k * 4 + 1, none⟩ (.int .i64 v.n)).setCell ⟨G, k * 4 + 2, none⟩ (.float .f64 v.f)).setCell ⟨G, k * 4 + 3, none⟩ (.string v.s)) G 0 (ys ++ [v]) := by
  have ne : ∀ i j : Nat, i ≠ j → (⟨G, i, none⟩ : Addr) ≠ ⟨G, j, none⟩ := fun i j h e => h (by injection e)
  intro j u hu
  rw [Nat.zero_add]
  by_cases e : j < k
  · rw [List.getElem?_append_left (by omega)] at hu
    obtain ⟨r0, r1, r2, r3⟩ := hr j u hu
    rw [Nat.zero_add] at r0 r1 r2 r3
    refine ⟨?_, ?_, ?_, ?_⟩
    · rw [sc_other _ _ _ _ (ne _ _ (by omega)), sc_other _ _ _ _ (ne _ _ (by omega)), sc_other _ _ _ _ (ne _ _ (by omega)), sc_other _ _ _ _ (ne _ _ (by omega))]; exact r0
    · rw [sc_other _ _ _ _ (ne _ _ (by omega)), sc_other _ _ _ _ (ne _ _ (by omega)), sc_other _ _ _ _ (ne _ _ (by omega)), sc_other _ _ _ _ (ne _ _ (by omega))]; exact r1
    · rw [sc_other _ _ _ _ (ne _ _ (by omega)), sc_other _ _ _ _ (ne _ _ (by omega)), sc_other _ _ _ _ (ne _ _ (by omega)), sc_other _ _ _ _ (ne _ _ (by omega))]; exact r2
    · rw [sc_other _ _ _ _ (ne _ _ (by omega)), sc_other _ _ _ _ (ne _ _ (by omega)), sc_other _ _ _ _ (ne _ _ (by omega)), sc_other _ _ _ _ (ne _ _ (by omega))]; exact r3
  · have hj : j = k := by
      obtain ⟨g, _⟩ := List.getElem?_eq_some_iff.1 hu
      simp at g; omega
    subst hj
    rw [List.getElem?_append_right (by omega), hl, Nat.sub_self] at hu
    cases hu
    obtain ⟨x0, e0⟩ := ex 0 (by omega)
    obtain ⟨x1, e1⟩ := ex 1 (by omega)
    obtain ⟨x2, e2⟩ := ex 2 (by omega)
    obtain ⟨x3, e3⟩ := ex 3 (by omega)
    refine ⟨?_, ?_, ?_, ?_⟩
    · rw [sc_other _ _ _ _ (ne _ _ (by omega)), sc_other _ _ _ _ (ne _ _ (by omega)), sc_other _ _ _ _ (ne _ _ (by omega))]; exact sc_same _ _ _ _ e0
    · rw [sc_other _ _ _ _ (ne _ _ (by omega)), sc_other _ _ _ _ (ne _ _ (by omega))]; exact sc_same _ _ _ _ (by rw [sc_other _ _ _ _ (ne _ _ (by omega))]; exact e1)
    · rw [sc_other _ _ _ _ (ne _ _ (by omega))]; exact sc_same _ _ _ _ (by rw [sc_other _ _ _ _ (ne _ _ (by omega)), sc_other _ _ _ _ (ne _ _ (by omega))]; exact e2)
    · exact sc_same _ _ _ _ (by rw [sc_other _ _ _ _ (ne _ _ (by omega)), sc_other _ _ _ _ (ne _ _ (by omega)), sc_other _ _ _ _ (ne _ _ (by omega))]; exact e3)
theorem fourSet {w w2 : World} {k n : Nat} {ys : List V} (v : V) (o : Obj) (hl : ys.length = k) (hk : k < n) (hr : RowAt w2 w.heap.size 0 ys) (hB : Below w.heap.size w w2) (hs : w.heap.size < w2.heap.size) (hc : ∀ q, q < n * 4 → ∃ x, w2.cell? ⟨w.heap.size, q, none⟩ = some x) (hz : ∀ q, w2.frozen? ⟨w.heap.size, q, none⟩ = false) (W : World)
    (hW : W = (((((w2.setCell ⟨w.heap.size, k * 4, none⟩ (.int .i64 v.k)).setCell ⟨w.heap.size, k * 4 + 1, none⟩ (.int .i64 v.n)).setCell ⟨w.heap.size, k * 4 + 2, none⟩ (.float .f64 v.f)).setCell ⟨w.heap.size, k * 4 + 3, none⟩ (.string v.s)).alloc o)) :
    Below w.heap.size w W ∧ w.heap.size < W.heap.size ∧ (∀ q, q < n * 4 → ∃ x, W.cell? ⟨w.heap.size, q, none⟩ = some x) ∧ (∀ q, W.frozen? ⟨w.heap.size, q, none⟩ = false) ∧ RowAt W w.heap.size 0 (ys ++ [v]) := by
  have hr4 := rowStep v hl hr (fun i hi => hc (k * 4 + i) (by omega))
  have hc4 : ∀ q, q < n * 4 → ∃ x, ((((w2.setCell ⟨w.heap.size, k * 4, none⟩ (.int .i64 v.k)).setCell ⟨w.heap.size, k * 4 + 1, none⟩ (.int .i64 v.n)).setCell ⟨w.heap.size, k * 4 + 2, none⟩ (.float .f64 v.f)).setCell ⟨w.heap.size, k * 4 + 3, none⟩ (.string v.s)).cell? ⟨w.heap.size, q, none⟩ = some x := fun q hq => by
    obtain ⟨x, hx⟩ := hc q hq
    obtain ⟨x, hx⟩ := cell?_setCell_some (p := ⟨w.heap.size, k * 4, none⟩) (x := .int .i64 v.k) hx
    obtain ⟨x, hx⟩ := cell?_setCell_some (p := ⟨w.heap.size, k * 4 + 1, none⟩) (x := .int .i64 v.n) hx
    obtain ⟨x, hx⟩ := cell?_setCell_some (p := ⟨w.heap.size, k * 4 + 2, none⟩) (x := .float .f64 v.f) hx
    exact cell?_setCell_some (p := ⟨w.heap.size, k * 4 + 3, none⟩) (x := .string v.s) hx
  have hz4 : ∀ q, ((((w2.setCell ⟨w.heap.size, k * 4, none⟩ (.int .i64 v.k)).setCell ⟨w.heap.size, k * 4 + 1, none⟩ (.int .i64 v.n)).setCell ⟨w.heap.size, k * 4 + 2, none⟩ (.float .f64 v.f)).setCell ⟨w.heap.size, k * 4 + 3, none⟩ (.string v.s)).frozen? ⟨w.heap.size, q, none⟩ = false := fun q => by
    rw [World.frozen?_setCell, World.frozen?_setCell, World.frozen?_setCell, World.frozen?_setCell]; exact hz q
  have hB4 : Below w.heap.size w ((((w2.setCell ⟨w.heap.size, k * 4, none⟩ (.int .i64 v.k)).setCell ⟨w.heap.size, k * 4 + 1, none⟩ (.int .i64 v.n)).setCell ⟨w.heap.size, k * 4 + 2, none⟩ (.float .f64 v.f)).setCell ⟨w.heap.size, k * 4 + 3, none⟩ (.string v.s)) :=
    (((hB.setCell (Nat.le_refl _) _).setCell (Nat.le_refl _) _).setCell (Nat.le_refl _) _).setCell (Nat.le_refl _) _
  have hs4 : w.heap.size < ((((w2.setCell ⟨w.heap.size, k * 4, none⟩ (.int .i64 v.k)).setCell ⟨w.heap.size, k * 4 + 1, none⟩ (.int .i64 v.n)).setCell ⟨w.heap.size, k * 4 + 2, none⟩ (.float .f64 v.f)).setCell ⟨w.heap.size, k * 4 + 3, none⟩ (.string v.s)).heap.size := by simpa using hs
  generalize ((((w2.setCell ⟨w.heap.size, k * 4, none⟩ (.int .i64 v.k)).setCell ⟨w.heap.size, k * 4 + 1, none⟩ (.int .i64 v.n)).setCell ⟨w.heap.size, k * 4 + 2, none⟩ (.float .f64 v.f)).setCell ⟨w.heap.size, k * 4 + 3, none⟩ (.string v.s)) = W4 at *
  have hA : Below W4.heap.size W4 W := by rw [hW]; exact bal (Below.refl _ _) _
  refine ⟨btr hB4 hA, Nat.lt_of_lt_of_le hs4 hA.size, fun q hq => ?_, fun q => ?_, hr4.below hs4 hA⟩
  · rw [(bcell hA).1 _ _ hs4]; exact hc4 q hq
  · rw [(bcell hA).2 _ _ hs4]; exact hz4 q
end Vl

set_option maxRecDepth 100000 in
set_option maxHeartbeats 2000000 in
theorem values_in (s : ByteArray) (w : World) (hs : s.size ≤ 100000) (h0 : 0 < s.size) (n : Nat) (hc : Vl.cAt s 0 = n) (hn : n ≤ 6) :
    Calls Try.prog 26 #[.string s] w fun e w' => ∃ p c, e = .returned (.tuple #[.slice p (Vl.valsL s).length c, .int .i64 (Vl.valsK s)]) ∧ (Vl.valsL s).length ≤ c ∧ (Vl.valsL s).length ≤ 6 ∧ Vl.RowIn w' p (Vl.valsL s) ∧ Below w.heap.size w w' := by
  obtain ⟨i24, hi, hz0, hz1, hz2⟩ : ∃ i, Try.prog.info? 24 = some i ∧ i.zero = some (.agg #[.int .i64 0, .int .i64 0, .float .f64 0, .string ⟨#[]⟩]) ∧ i.size = 4 ∧ i.bytes = 40 := ⟨_, Try.type24, rfl, rfl, rfl⟩
  have hX : ∀ w, (Instr.index 9 (.string s) (.int .i64 0)).run Try.prog w = .ok (.int .u8 (n : Int)) w := by
    intro w; have h := Vl.idx_str 9 Try.underlying9 s 0 h0 w; rw [hc] at h; exact h
  have hz : ((s.size : Int) == 0) = false := beq_eq_false_iff_ne.2 (by omega)
  have h6 : decide ((6 : Int) < (n : Int)) = false := decide_eq_false (by omega)
  have HT : Hid (Vl.valsT s = match Vl.takeN s 1 n with | none => none | some (l, b) => if b = s.size then some l else none) := Vl.hid (by unfold Vl.valsT; rw [if_neg (by omega), hc])
  have HS := Vl.hid hs
  have H0 := Vl.hid h0
  clear hc hs h0
  go_enter Try.func26, Try.ntmps26
  go_wp2_with (first | (at_make; refine wpList_make_full _ rfl _ _ 42 rfl w.heap.size 24 i24 (.agg #[.int .i64 0, .int .i64 0, .float .f64 0, .string ⟨#[]⟩]) 4 Try.underlying42 hi hz0 hz1 .u8 .u8 (n : Int) (n : Int) n rfl rfl rfl rfl (by rw [hz2]; omega) (by unfold maxLen; omega) (Nat.le_refl _) ?_; intro W0 hown0 hgrow0))
  obtain ⟨cur0, hg0, hc0⟩ := Vl.row_of4 hown0
  have HB0 : Hid (Below w.heap.size w W0) := (Below.refl _ _).grown hgrow0 (Nat.le_refl _) (fun k h => by cases h)
  have HS0 : Hid (w.heap.size < W0.heap.size) := by
    rcases Nat.lt_or_ge w.heap.size W0.heap.size with c | c
    · exact c
    · rw [Array.getElem?_eq_none c] at hg0; cases hg0
  have HC0 : Hid (∀ q, q < n * 4 → ∃ x, W0.cell? ⟨w.heap.size, q, none⟩ = some x) := fun q hq => ⟨cur0[q]'(by omega), by simp [World.cell?, hg0, Array.getElem?_eq_getElem (by omega : q < cur0.size)]⟩
  have HZ0 : Hid (∀ q, W0.frozen? ⟨w.heap.size, q, none⟩ = false) := fun q => by simp [World.frozen?, hg0]
  clear hown0 hgrow0 hg0 hc0 hi hz0 hz1 hz2
  go_loopw [5, 23] (fun va vi wr => ∃ (k a : Nat) (ys : List Vl.V), k ≤ n ∧ vi = .int .i64 (k : Int) ∧ va = .int .i64 (a : Int) ∧ Hid (Vl.takeN s 1 k = some (ys, a)) ∧ Hid (ys.length = k) ∧ Hid (a ≤ s.size) ∧ Hid (Below w.heap.size w wr) ∧ Hid (w.heap.size < wr.heap.size) ∧ Hid (∀ q, q < n * 4 → ∃ x, wr.cell? ⟨w.heap.size, q, none⟩ = some x) ∧ Hid (∀ q, wr.frozen? ⟨w.heap.size, q, none⟩ = false) ∧ Hid (Vl.RowAt wr w.heap.size 0 ys)) (fun _ vi _ => n - (RowKit.intOf vi).toNat)
  case atStart => exact ⟨0, 1, [], by omega, rfl, rfl, rfl, rfl, H0.out, HB0, HS0, HC0, HZ0, fun i xs h => by simp at h⟩
  case round =>
    obtain ⟨k, a, ys, hk, rfl, rfl, HK, HL, HA, HB, HW, HC, HZ, HR⟩ := hrel
    rename World => wr
    have ha2 : a ≤ 100000 := Nat.le_trans HA.out HS.out
    by_cases hlt : k < n
    · cases hd : Vl.dec s (a : Int) with
      | none =>
        have HD := Vl.hid hd
        clear hd
        have hv := Vl.valsL_none (s := s) (by rw [HT.out, Vl.takeN_none HK.out HD.out hlt])
        have HV := Vl.hid hv
        clear hv
        go_wp2_with fail
        refine (decode_any s a _ HS.out).mono ?_
        rintro e w2 ⟨rfl, hb2⟩
        rw [HD.out, Vl.decT_none]
        have HB2 := Vl.hid (Vl.btr HB.out hb2)
        clear hb2
        go_wp2_with fail
        go_ret2
        rw [HV.out.1, HV.out.2]
        exact ⟨none, 0, rfl, Nat.le_refl _, by decide, Or.inl rfl, Vl.bal HB2.out _⟩
      | some g =>
        have HD := Vl.hid hd
        have HK2 := Vl.hid (Vl.dec_back hd)
        clear hd
        go_wp2_with fail
        refine (decode_any s a _ HS.out).mono ?_
        rintro e w2 ⟨rfl, hb2⟩
        rw [HD.out, Vl.decT_some]
        have hm2 := Vl.bcell hb2
        obtain ⟨x0, y0⟩ := HC.out (k * 4) (by omega)
        obtain ⟨x1, y1⟩ := HC.out (k * 4 + 1) (by omega)
        obtain ⟨x2, y2⟩ := HC.out (k * 4 + 2) (by omega)
        obtain ⟨x3, y3⟩ := HC.out (k * 4 + 3) (by omega)
        have q0 := (hm2.1 w.heap.size (k * 4) HW.out).trans y0
        have q1 := (hm2.1 w.heap.size (k * 4 + 1) HW.out).trans y1
        have q2 := (hm2.1 w.heap.size (k * 4 + 2) HW.out).trans y2
        have q3 := (hm2.1 w.heap.size (k * 4 + 3) HW.out).trans y3
        have f0 := (hm2.2 w.heap.size (k * 4) HW.out).trans (HZ.out (k * 4))
        have f1 := (hm2.2 w.heap.size (k * 4 + 1) HW.out).trans (HZ.out (k * 4 + 1))
        have f2 := (hm2.2 w.heap.size (k * 4 + 2) HW.out).trans (HZ.out (k * 4 + 2))
        have f3 := (hm2.2 w.heap.size (k * 4 + 3) HW.out).trans (HZ.out (k * 4 + 3))
        have hsz2 : w.heap.size < w2.heap.size := Nat.lt_of_lt_of_le HW.out hb2.size
        have hne : w2.heap.size ≠ w.heap.size := by omega
        have HB2 := Vl.hid hb2
        have hgz : g.sz ≤ 100000 := by have := HK2.out.le; have := HS.out; omega
        clear hb2 y0 y1 y2 y3 hm2
        go_wp2_with fail
        have hbig := Vl.fourSet (w := w) (w2 := w2) (n := n) g.v (.cells #[.int .i64 g.v.k, .int .i64 g.v.n, .float .f64 g.v.f, .string g.v.s] 24) HL.out hlt (HR.out.below HW.out HB2.out) (Vl.btr HB.out HB2.out) hsz2 (fun q hq => by rw [(Vl.bcell HB2.out).1 _ _ HW.out]; exact HC.out q hq) (fun q => by rw [(Vl.bcell HB2.out).2 _ _ HW.out]; exact HZ.out q) _ rfl
        exact ⟨⟨k + 1, a + 1 + g.sz, ys ++ [g.v], by omega, by go_num, by rw [show (a : Int) + (1 + (g.sz : Int)) = ((a + 1 + g.sz : Nat) : Int) from by omega], Vl.takeN_some HK.out HD.out, Vl.hid (by rw [List.length_append, HL.out]; rfl), Vl.hid (by have := HK2.out.le; omega), hbig.1, hbig.2.1, hbig.2.2.1, hbig.2.2.2.1, hbig.2.2.2.2⟩, by simp [RowKit.intOf]; omega⟩
    · obtain rfl : k = n := by omega
      by_cases he : a = s.size
      · have hv := Vl.valsL_some (s := s) (l := ys) (by rw [HT.out, HK.out]; exact if_pos he)
        have HE := Vl.hid he
        have hei : ((a : Int) != (s.size : Int)) = false := by simp [he]
        have HV := Vl.hid hv
        clear hv he
        go_wp2_with fail
        go_ret2
        rw [HV.out.1, HV.out.2]
        exact ⟨some ⟨w.heap.size, 0, none⟩, k, by rw [HL.out]; rfl, by rw [HL.out]; exact Nat.le_refl _, by rw [HL.out]; exact hn, Or.inr ⟨_, _, rfl, HW.out, HR.out⟩, HB.out⟩
      · have hv := Vl.valsL_none (s := s) (by rw [HT.out, HK.out]; exact if_neg he)
        have hei : ((a : Int) != (s.size : Int)) = true := by simp; omega
        have HV := Vl.hid hv
        clear hv he
        go_wp2_with fail
        go_ret2
        rw [HV.out.1, HV.out.2]
        exact ⟨none, 0, rfl, Nat.le_refl _, by decide, Or.inl rfl, HB.out⟩

set_option maxHeartbeats 1000000 in
theorem values_any (s : ByteArray) (w : World) (hs : s.size ≤ 100000) :
    Calls Try.prog 26 #[.string s] w fun e w' => ∃ p c, e = .returned (.tuple #[.slice p (Vl.valsL s).length c, .int .i64 (Vl.valsK s)]) ∧ (Vl.valsL s).length ≤ c ∧ (Vl.valsL s).length ≤ 6 ∧ Vl.RowIn w' p (Vl.valsL s) ∧ Below w.heap.size w w' := by
  by_cases h0 : s.size = 0
  · have hv := Vl.valsL_none (s := s) (by unfold Vl.valsT; rw [if_pos (Or.inl h0)])
    rw [hv.1, hv.2]
    have hz : ((s.size : Int) == 0) = true := by simp [h0]
    clear hv
    go_enter Try.func26, Try.ntmps26
    go_wp2_with fail
    go_ret2
    exact ⟨none, 0, rfl, Nat.le_refl _, by decide, Or.inl rfl, Below.refl _ _⟩
  by_cases h6 : 6 < Vl.cAt s 0
  · have hv := Vl.valsL_none (s := s) (by unfold Vl.valsT; rw [if_pos (Or.inr h6)])
    rw [hv.1, hv.2]
    have hX : ∀ w, (Instr.index 9 (.string s) (.int .i64 0)).run Try.prog w = .ok (.int .u8 (Vl.cAt s 0 : Int)) w := fun w => Vl.idx_str 9 Try.underlying9 s 0 (by omega) w
    have hz : ((s.size : Int) == 0) = false := beq_eq_false_iff_ne.2 (by omega)
    have hd : decide ((6 : Int) < (Vl.cAt s 0 : Int)) = true := decide_eq_true (by omega)
    clear hv
    go_enter Try.func26, Try.ntmps26
    go_wp2_with fail
    go_ret2
    exact ⟨none, 0, rfl, Nat.le_refl _, by decide, Or.inl rfl, Below.refl _ _⟩
  exact values_in s w hs (by omega) _ rfl (by omega)

end Go.Proofs.Ytanljohnmaokeaa
