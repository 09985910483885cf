/- The reference's Take and Values. -/
import Derived.Test.YtanljohnmaokeaaN4
import Derived.Test.YtanljohnmaokeaaD6
namespace Go.Proofs.Ytanljohnmaokeaa
open Go.RowKit Go.Sort
attribute [local go_sem] Fl.run_store_float Try.buildGot Try.buildGot0
namespace Vl
def takeT (s : ByteArray) : Option (List V × Nat) := if s.size = 0 ∨ 6 < cAt s 0 then none else takeN s 1 (cAt s 0)
def tL (s : ByteArray) : List V := ((takeT s).getD ([], 0)).1
def tZ (s : ByteArray) : Nat := ((takeT s).getD ([], 0)).2
theorem cellsV_app : ∀ (a b : List V), cellsV (a ++ b) = cellsV a ++ cellsV b
  | [], _ => rfl
  | x :: a, b => by simp [cellsV, cellsV_app a b]
theorem own_below {w w2 : World} {base size n : Nat} {e : TypeId} {v : Value} {xs : List Value} (h : w.ownsRow base e size v n xs) (hb : Below w.heap.size w w2) : w2.ownsRow base e size v n xs := by
  obtain ⟨h0, h1 | ⟨g, cap, cur, e1, e2, e3, e4⟩⟩ := h
  · exact ⟨h0, Or.inl h1⟩
  · have hl : g < w.heap.size := by
      rcases Nat.lt_or_ge g w.heap.size with c | c
      · exact c
      · rw [Array.getElem?_eq_none c] at e3; cases e3
    exact ⟨h0, Or.inr ⟨g, cap, cur, e1, e2, by rw [hb.block g hl]; exact e3, e4⟩⟩
theorem own_row {w : World} {base n : Nat} {e : TypeId} {v : Value} {ys : List V} (h : w.ownsRow base e 4 v n (cellsV ys)) : ∃ p c, v = .slice p n c ∧ ys.length = n ∧ n ≤ c ∧ RowIn w p ys := by
  obtain ⟨h0, ⟨e1, e2⟩ | ⟨g, cap, cur, e1, e2, e3, e4, e5, e6, e7⟩⟩ := h
  · rw [cellsV_length] at h0
    exact ⟨none, 0, by rw [e1, e2], by omega, by omega, Or.inl (by omega)⟩
  · rw [cellsV_length] at h0
    have hl : g < w.heap.size := by
      rcases Nat.lt_or_ge g w.heap.size with c | c
      · exact c
      · rw [Array.getElem?_eq_none c] at e3; cases e3
    refine ⟨_, cap, e1, by omega, e4, Or.inr ⟨g, 0, rfl, hl, fun j v hv => ?_⟩⟩
    have hj : j < ys.length := (List.getElem?_eq_some_iff.1 hv).1
    obtain ⟨c0, c1, c2, c3⟩ := cellsV_at ys j v hv
    have hc : ∀ q, q < n * 4 → w.cell? ⟨g, q, none⟩ = (cellsV ys)[q]? := fun q hq => by
      rw [← e7, List.getElem?_take_of_lt hq]
      simp [World.cell?, e3]
    rw [Nat.zero_add]
    exact ⟨(hc _ (by omega)).trans c0, (hc _ (by omega)).trans c1, (hc _ (by omega)).trans c2, (hc _ (by omega)).trans c3⟩
end Vl

set_option maxRecDepth 100000 in
set_option maxHeartbeats 2000000 in
theorem refTake_in (s : ByteArray) (w : World) (hs : s.size ≤ 100000) (h0 : 0 < s.size) (n : Nat) (hc : Vl.cAt s 0 = n) (hn : n ≤ 6) :
    Calls Try.prog 55 #[.string s, .int .i64 0] w fun e w' => ∃ p c, e = .returned (.agg #[.slice p (Vl.tL s).length c, .int .i64 (Vl.tZ s : Int)]) ∧ (Vl.tL s).length ≤ c ∧ (Vl.tL s).length ≤ 6 ∧ Vl.RowIn w' p (Vl.tL s) ∧ Below w.heap.size w w' := by
  obtain ⟨i24, hi, hz0, hz1, hz2⟩ : ∃ i, Try.prog.info? 24 = some i ∧ i.zero = some (.agg #[.int .i64 0, .int .i64 0, .float .f64 0, .string ⟨#[]⟩]) ∧ i.size = 4 ∧ i.bytes = 40 := ⟨_, Try.type24, rfl, rfl, rfl⟩
  have hX : ∀ w, (Instr.index 9 (.string s) (.int .i64 0)).run Try.prog w = .ok (.int .u8 (n : Int)) w := by
    intro w; have h := Vl.idx_str 9 Try.underlying9 s 0 h0 w; rw [hc] at h; exact h
  have he : ¬ s = ByteArray.empty := by intro h; rw [h] at h0; exact absurd h0 (by decide)
  have h6 : decide ((6 : Int) < (n : Int)) = false := decide_eq_false (by omega)
  have HT : Hid (Vl.takeT s = Vl.takeN s 1 n) := Vl.hid (by unfold Vl.takeT; rw [if_neg (by omega), hc])
  have HS := Vl.hid hs
  have H0 := Vl.hid h0
  clear hc hs h0
  go_enter Try.func55, Try.ntmps55
  go_wp2_with fail
  have HB0 : Hid (Below (w.alloc (.cells #[.slice none 0 0, .int .i64 0] 94)).heap.size (w.alloc (.cells #[.slice none 0 0, .int .i64 0] 94)) (w.alloc (.cells #[.slice none 0 0, .int .i64 0] 94))) := Below.refl _ _
  have HW1 : Hid (Below w.heap.size w (w.alloc (.cells #[.slice none 0 0, .int .i64 0] 94))) := Vl.bal (Below.refl _ _) _
  have hw1 : (w.alloc (.cells #[.slice none 0 0, .int .i64 0] 94)).heap.size = w.heap.size + 1 := by simp
  have hcc : (w.alloc (.cells #[.slice none 0 0, .int .i64 0] 94)).cell? ⟨w.heap.size, 0, none⟩ = some (.slice none 0 0) ∧ (w.alloc (.cells #[.slice none 0 0, .int .i64 0] 94)).cell? ⟨w.heap.size, 1, none⟩ = some (.int .i64 0) ∧ (w.alloc (.cells #[.slice none 0 0, .int .i64 0] 94)).frozen? ⟨w.heap.size, 0, none⟩ = false ∧ (w.alloc (.cells #[.slice none 0 0, .int .i64 0] 94)).frozen? ⟨w.heap.size, 1, none⟩ = false := by simp [go_sem]
  have HCC := Vl.hid hcc
  have HSZ := Vl.hid hw1
  clear hcc hw1
  generalize (w.alloc (.cells #[.slice none 0 0, .int .i64 0] 94)) = W1 at *
  go_loopw [5, 6, 7] (fun vl va vi wr => ∃ (k a : Nat) (ys : List Vl.V), k ≤ n ∧ vi = .int .i64 (k : Int) ∧ va = .int .i64 (a : Int) ∧ Hid (Vl.takeN s 1 k = some (ys, a)) ∧ Hid (ys.length = k) ∧ Hid (a ≤ s.size) ∧ Hid (Below W1.heap.size W1 wr) ∧ Hid (wr.ownsRow (w.heap.size + 1) 24 4 vl k (Vl.cellsV ys))) (fun _ _ vi _ => n - (RowKit.intOf vi).toNat)
  case atStart => exact ⟨0, 1, [], by omega, rfl, rfl, rfl, rfl, H0.out, HB0, ⟨rfl, Or.inl ⟨rfl, rfl⟩⟩⟩
  case round =>
    obtain ⟨k, a, ys, hk, rfl, rfl, HK, HL, HA, HB, HO⟩ := hrel
    rename World => wr
    have hblk : w.heap.size < W1.heap.size := by rw [HSZ.out]; omega
    have hm := Vl.bcell HB.out
    have r0 := (hm.1 w.heap.size 0 hblk).trans HCC.out.1
    have r1 := (hm.1 w.heap.size 1 hblk).trans HCC.out.2.1
    have g0 := (hm.2 w.heap.size 0 hblk).trans HCC.out.2.2.1
    have g1 := (hm.2 w.heap.size 1 hblk).trans HCC.out.2.2.2
    have hwr : w.heap.size < wr.heap.size := Nat.lt_of_lt_of_le hblk HB.out.size
    have ha2 : a ≤ 100000 := Nat.le_trans HA.out HS.out
    clear hm
    by_cases hlt : k < n
    · cases hd : Vl.dec s (a : Int) with
      | none =>
        have HD := Vl.hid hd
        clear hd
        have HV : Hid (Vl.tL s = [] ∧ Vl.tZ s = 0) := Vl.hid (by unfold Vl.tL Vl.tZ; rw [HT.out, Vl.takeN_none HK.out HD.out hlt]; exact ⟨rfl, rfl⟩)
        go_wp2_with fail
        refine (refDecode_any s a _ HS.out).mono ?_
        rintro e w2 ⟨rfl, hb2⟩
        rw [HD.out, Vl.decA_none]
        have hm2 := Vl.bcell hb2
        have p0 := (hm2.1 w.heap.size 0 hwr).trans r0
        have p1 := (hm2.1 w.heap.size 1 hwr).trans r1
        have q0 := (hm2.2 w.heap.size 0 hwr).trans g0
        have q1 := (hm2.2 w.heap.size 1 hwr).trans g1
        have hw2 : w.heap.size < w2.heap.size := Nat.lt_of_lt_of_le hwr hb2.size
        have hne : w2.heap.size ≠ w.heap.size := by omega
        have HB2 := Vl.hid (Vl.btr HB.out hb2)
        clear hb2 hm2 r0 r1 g0 g1
        go_wp2_with fail
        refine bodyPost_ret (v := .agg #[.slice none 0 0, .int .i64 0]) (by simp [results, Try.results55, go_sem, *]) rfl ?_
        rw [HV.out.1, HV.out.2]
        refine ⟨none, 0, rfl, Nat.le_refl _, by decide, Or.inl rfl, ?_⟩
        exact Vl.bal (((Vl.btr HW1.out HB2.out).setCell (Nat.le_refl _) _).setCell (Nat.le_refl _) _) _
      | some g =>
        have HD := Vl.hid hd
        have HK2 := Vl.hid (Vl.dec_back hd)
        clear hd
        have hgz : g.sz ≤ 100000 := by have := HK2.out.le; have := HS.out; omega
        have hgi : ((1 : Int) + (g.sz : Int) == 0) = false := beq_eq_false_iff_ne.2 (by omega)
        obtain ⟨pv, cv, rfl, hlen, hcap, _⟩ := Vl.own_row HO.out
        go_wp2_with fail
        refine (refDecode_any s a _ HS.out).mono ?_
        rintro e w2 ⟨rfl, hb2⟩
        rw [HD.out]
        have eA : Vl.decA (some g) = .agg #[.int .i64 g.v.k, .int .i64 g.v.n, .float .f64 g.v.f, .string g.v.s, .int .i64 (1 + (g.sz : Int))] := rfl
        rw [eA]
        have HO2 := Vl.hid (Vl.own_below HO.out hb2)
        have hw2 : w.heap.size < w2.heap.size := Nat.lt_of_lt_of_le hwr hb2.size
        have HB2 := Vl.hid (Vl.btr HB.out hb2)
        clear hb2 eA r0 r1 g0 g1
        go_wp2_with (at_builtin; refine wpList_append_own _ rfl _ _ 42 rfl (w.heap.size + 1) 24 i24 (.agg #[.int .i64 0, .int .i64 0, .float .f64 0, .string ⟨#[]⟩]) 4 40 Try.underlying42 hi hz0 hz1 hz2 rfl (by decide) (.slice pv k cv) k (Vl.cellsV ys) rfl ((HO2.out.alloc _).alloc _) ⟨w2.heap.size + 1, 0, none⟩ 1 1 (Vl.cellsV [g.v]) rfl rfl ?c1 ?c2 ?c3 ?c4 ?c5 ?_)
        case c1 =>
          intro j u hj
          match j, hj with
          | 0, hj => simp [Vl.cellsV] at hj; subst hj; simp [Addr.add, go_sem]
          | 1, hj => simp [Vl.cellsV] at hj; subst hj; simp [Addr.add, go_sem]
          | 2, hj => simp [Vl.cellsV] at hj; subst hj; simp [Addr.add, go_sem]
          | 3, hj => simp [Vl.cellsV] at hj; subst hj; simp [Addr.add, go_sem]
          | j + 4, hj => simp [Vl.cellsV] at hj
        case c2 => exact Vl.cellsV_one _
        case c3 => unfold maxLen; omega
        case c4 => omega
        case c5 => simp; omega
        intro v' w3 hown' hgrow _
        have hb3 : RowKit.Below W1.heap.size W1 w3 := (((HB2.out.alloc HB2.out.size _).alloc (by have := HB2.out.size; simp; omega) _).grown hgrow (by have := HB2.out.size; simp; omega) (fun j hj => by rw [HSZ.out]; exact (HO2.out.lt j hj).1))
        have hsz3 : w3.cell? ⟨w2.heap.size, 4, none⟩ = some (.int .i64 (1 + (g.sz : Int))) := by
          refine hgrow.cell (by simp [go_sem]) (fun e => ?_)
          have := (HO2.out.lt w2.heap.size e.symm).2
          omega
        have HO3 : Hid (w3.ownsRow (w.heap.size + 1) 24 4 v' (k + 1) (Vl.cellsV (ys ++ [g.v]))) := Vl.hid (by rw [Vl.cellsV_app]; exact hown')
        have HB3 := Vl.hid hb3
        clear hown' hgrow hb3
        go_wp2_with fail
        exact ⟨⟨k + 1, a + 1 + g.sz, ys ++ [g.v], by omega, by go_num, by rw [show (a : Int) + (1 + (g.sz : Int)) = ((a + 1 + g.sz : Nat) : Int) from by omega], Vl.takeN_some HK.out HD.out, Vl.hid (by rw [List.length_append, HL.out]; rfl), Vl.hid (by have := HK2.out.le; omega), HB3.out, HO3.out⟩, by simp [RowKit.intOf]; omega⟩
    · obtain rfl : k = n := by omega
      have HV : Hid (Vl.tL s = ys ∧ Vl.tZ s = a) := Vl.hid (by unfold Vl.tL Vl.tZ; rw [HT.out, HK.out]; exact ⟨rfl, rfl⟩)
      obtain ⟨pv, cv, rfl, hlen, hcap, hin⟩ := Vl.own_row HO.out
      have HIN := Vl.hid hin
      have HLEN := Vl.hid hlen
      clear hin hlen
      go_wp2_with fail
      refine bodyPost_ret (v := .agg #[.slice pv k cv, .int .i64 (a : Int)]) (by simp [results, Try.results55, go_sem, *]) rfl ?_
      rw [HV.out.1, HV.out.2, HLEN.out]
      obtain ⟨p', c', hv', _, _, hin'⟩ := Vl.own_row (ownsRow_setCell_below (ownsRow_setCell_below HO.out (a := ⟨w.heap.size, 0, none⟩) (Nat.lt_succ_self _) (.slice pv k cv)) (a := ⟨w.heap.size, 1, none⟩) (Nat.lt_succ_self _) (.int .i64 (a : Int)))
      cases hv'
      exact ⟨pv, cv, rfl, hcap, hn, hin', ((Vl.btr HW1.out HB.out).setCell (Nat.le_refl _) _).setCell (Nat.le_refl _) _⟩

theorem Vl.takeN_ge {s : ByteArray} {a : Nat} : ∀ {k : Nat} {l : List Vl.V} {b : Nat}, Vl.takeN s a k = some (l, b) → a ≤ b
  | 0, l, b, h => by
    have h' : some (([] : List Vl.V), a) = some (l, b) := h
    cases h'; exact Nat.le_refl _
  | k + 1, l, b, h => by
    have h' : (match Vl.takeN s a k with | none => none | some (l, b) => match Vl.dec s (b : Int) with | none => none | some g => some (l ++ [g.v], b + 1 + g.sz)) = some (l, b) := h
    cases h1 : Vl.takeN s a k with
    | none => rw [h1] at h'; cases h'
    | some lb =>
      obtain ⟨l1, b1⟩ := lb
      rw [h1] at h'
      have h2 : (match Vl.dec s (b1 : Int) with | none => none | some g => some (l1 ++ [g.v], b1 + 1 + g.sz)) = some (l, b) := h'
      cases hd : Vl.dec s (b1 : Int) with
      | none => rw [hd] at h2; cases h2
      | some g =>
        rw [hd] at h2
        have h3 : some (l1 ++ [g.v], b1 + 1 + g.sz) = some (l, b) := h2
        have := Vl.takeN_ge h1
        cases h3; omega

set_option maxHeartbeats 1000000 in
theorem refTake_any (s : ByteArray) (w : World) (hs : s.size ≤ 100000) :
    Calls Try.prog 55 #[.string s, .int .i64 0] w fun e w' => ∃ p c, e = .returned (.agg #[.slice p (Vl.tL s).length c, .int .i64 (Vl.tZ s : Int)]) ∧ (Vl.tL s).length ≤ c ∧ (Vl.tL s).length ≤ 6 ∧ Vl.RowIn w' p (Vl.tL s) ∧ Below w.heap.size w w' := by
  by_cases h0 : s.size = 0
  · have hv : Vl.tL s = [] ∧ Vl.tZ s = 0 := by unfold Vl.tL Vl.tZ Vl.takeT; rw [if_pos (Or.inl h0)]; exact ⟨rfl, rfl⟩
    rw [hv.1, hv.2]
    have hz : (s.size : Int) ≤ 0 := by omega
    have he : s = ByteArray.empty := by simpa using h0
    clear hv
    go_enter Try.func55, Try.ntmps55
    go_wp2_with fail
    exact bodyPost_ret (v := .agg #[.slice none 0 0, .int .i64 0]) (by simp [results, Try.results55, go_sem]) rfl ⟨none, 0, rfl, Nat.le_refl _, by decide, Or.inl rfl, Vl.bal (Below.refl _ _) _⟩
  by_cases h6 : 6 < Vl.cAt s 0
  · have hv : Vl.tL s = [] ∧ Vl.tZ s = 0 := by unfold Vl.tL Vl.tZ Vl.takeT; rw [if_pos (Or.inr h6)]; exact ⟨rfl, rfl⟩
    rw [hv.1, hv.2]
    have hX : ∀ w, (Instr.index 9 (.string s) (.int .i64 0)).run Try.prog w = .ok (.int .u8 (Vl.cAt s 0 : Int)) w := fun w => Vl.idx_str 9 Try.underlying9 s 0 (by omega) w
    have he : ¬ s = ByteArray.empty := by intro h; rw [h] at h0; exact h0 rfl
    have hd : decide ((6 : Int) < (Vl.cAt s 0 : Int)) = true := decide_eq_true (by omega)
    clear hv
    go_enter Try.func55, Try.ntmps55
    go_wp2_with fail
    exact bodyPost_ret (v := .agg #[.slice none 0 0, .int .i64 0]) (by simp [results, Try.results55, go_sem]) rfl ⟨none, 0, rfl, Nat.le_refl _, by decide, Or.inl rfl, Vl.bal (Below.refl _ _) _⟩
  exact refTake_in s w hs (by omega) _ rfl (by omega)

theorem Vl.valsT_eq (s : ByteArray) : Vl.valsT s = match Vl.takeT s with | none => none | some (l, b) => if b = s.size then some l else none := by
  unfold Vl.valsT Vl.takeT
  by_cases h : s.size = 0 ∨ 6 < Vl.cAt s 0
  · rw [if_pos h, if_pos h]
  · rw [if_neg h, if_neg h]
    cases Vl.takeN s 1 (Vl.cAt s 0) <;> rfl

set_option maxHeartbeats 1000000 in
theorem refValues_any (s : ByteArray) (w : World) (hs : s.size ≤ 100000) :
    Calls Try.prog 27 #[.string s] w fun e w' => ∃ p c, e = .returned (.tuple #[.slice p (Vl.valsL s).length c, .int .i64 (Vl.valsK s)]) ∧ (Vl.valsL s).length ≤ c ∧ (Vl.valsL s).length ≤ 6 ∧ Vl.RowIn w' p (Vl.valsL s) ∧ Below w.heap.size w w' := by
  have H := Vl.hid (refTake_any s w hs)
  clear hs
  cases ht : Vl.takeT s with
  | none =>
    have hv := Vl.valsL_none (s := s) (by rw [Vl.valsT_eq, ht])
    rw [hv.1, hv.2]
    have hq : Vl.tL s = [] ∧ Vl.tZ s = 0 := by unfold Vl.tL Vl.tZ; rw [ht]; exact ⟨rfl, rfl⟩
    have HQ := Vl.hid hq
    clear hv hq ht
    go_enter Try.func27, Try.ntmps27
    go_wp2_with fail
    refine H.out.mono ?_
    rintro e w1 ⟨p, c, rfl, h1, h2, h3, h4⟩
    rw [HQ.out.1, HQ.out.2]
    have HB := Vl.hid h4
    clear h1 h2 h3 h4
    go_wp2_with fail
    go_ret2
    exact ⟨none, 0, rfl, Nat.le_refl _, by decide, Or.inl rfl, Vl.bal HB.out _⟩
  | some lb =>
    obtain ⟨l, b⟩ := lb
    have hq : Vl.tL s = l ∧ Vl.tZ s = b := by unfold Vl.tL Vl.tZ; rw [ht]; exact ⟨rfl, rfl⟩
    have hb : 1 ≤ b := by
      unfold Vl.takeT at ht
      split at ht
      · cases ht
      · exact Vl.takeN_ge ht
    have HQ := Vl.hid hq
    have hbz : ((b : Int) == 0) = false := beq_eq_false_iff_ne.2 (by omega)
    by_cases he : b = s.size
    · have hv := Vl.valsL_some (s := s) (l := l) (by rw [Vl.valsT_eq, ht]; exact if_pos he)
      rw [hv.1, hv.2]
      have hne : ((b : Int) != (s.size : Int)) = false := by simp [he]
      clear hv hq ht he hb
      go_enter Try.func27, Try.ntmps27
      go_wp2_with fail
      refine H.out.mono ?_
      rintro e w1 ⟨p, c, rfl, h1, h2, h3, h4⟩
      rw [HQ.out.1] at h1 h2 h3
      rw [HQ.out.1, HQ.out.2]
      have HH := Vl.hid (And.intro h1 (And.intro h2 (And.intro h3 h4)))
      clear h1 h2 h3 h4
      go_wp2_with fail
      go_ret2
      exact ⟨p, c, rfl, HH.out.1, HH.out.2.1, HH.out.2.2.1.below (Vl.bal (Below.refl _ _) _), Vl.bal HH.out.2.2.2 _⟩
    · have hv := Vl.valsL_none (s := s) (by rw [Vl.valsT_eq, ht]; exact if_neg he)
      rw [hv.1, hv.2]
      have hne : ((b : Int) != (s.size : Int)) = true := by simp; omega
      clear hv hq ht he hb
      go_enter Try.func27, Try.ntmps27
      go_wp2_with fail
      refine H.out.mono ?_
      rintro e w1 ⟨p, c, rfl, h1, h2, h3, h4⟩
      rw [HQ.out.1, HQ.out.2]
      have HB := Vl.hid h4
      clear h1 h2 h3 h4
      go_wp2_with fail
      go_ret2
      exact ⟨none, 0, rfl, Nat.le_refl _, by decide, Or.inl rfl, Vl.bal HB.out _⟩

end Go.Proofs.Ytanljohnmaokeaa
