/- Begin, Commit, Abort. -/
import Derived.Test.YtoobljkjhpkghaaCa3
namespace Go.Proofs.Ytoobljkjhpkghaa
open Go.RowKit
namespace Mm
/-- Nothing that was turns, but for one block. -/
structure Tch (p : Nat) (w w' : World) : Prop where
  os : w'.os = w.os
  tape : w'.tape = w.tape
  output : w'.output = w.output
  size : w.heap.size ≤ w'.heap.size
  block : ∀ k, k < w.heap.size → k ≠ p → w'.heap[k]? = w.heap[k]?
theorem Tch.refl (p : Nat) (w : World) : Tch p w w := ⟨rfl, rfl, rfl, Nat.le_refl _, fun _ _ _ => rfl⟩
theorem Tch.trans {p : Nat} {a b c : World} (h : Tch p a b) (k : Tch p b c) : Tch p a c :=
  ⟨k.os.trans h.os, k.tape.trans h.tape, k.output.trans h.output, Nat.le_trans h.size k.size, fun i hi hp => (k.block i (Nat.lt_of_lt_of_le hi h.size) hp).trans (h.block i hi hp)⟩
theorem Tch.of {p : Nat} {w w' : World} (h : Below w.heap.size w w') : Tch p w w' := ⟨h.os, h.tape, h.output, h.size, fun k hk _ => h.block k hk⟩
theorem Tch.bel {p h : Nat} {w w' : World} (H : Tch p w w') (hp : h ≤ p) (hh : h ≤ w.heap.size) : Below h w w' := ⟨H.os, H.tape, H.output, H.size, fun k hk => H.block k (by omega) (by omega)⟩
theorem Tch.set {p : Nat} {w w' : World} (H : Tch p w w') (_ : p < w.heap.size) (i : Nat) (u : Value) : Tch p w (w'.setCell ⟨p, i, none⟩ u) := by
  have hb : Below p w' (w'.setCell ⟨p, i, none⟩ u) := setBel (Nat.le_refl _) i u
  refine H.trans ⟨hb.os, hb.tape, hb.output, hb.size, fun k _ hkp => ?_⟩
  exact heap_setCell_other w' ⟨p, i, none⟩ k u hkp
theorem Tch.drew {p : Nat} {w w' : World} (H : Tch p w w') : Tch p w w'.drew := ⟨H.os, H.tape, H.output, H.size, H.block⟩

theorem belDN {B : Nat} {w w1 : World} (h : Below B w w1) (n : Nat) : Below B w (w1.drewN n) := ⟨h.os, h.tape, h.output, h.size, h.block⟩
theorem four_off {cs : Array Value} {o j : Nat} {t : Cg.Tx} {u : Value} (h : Four cs o t) (hj : j < o ∨ o + 3 < j) : Four (cs.setIfInBounds j u) o t := by
  obtain ⟨a, b, c, d⟩ := h
  refine ⟨?_, ?_, ?_, ?_⟩
  · rw [Array.getElem?_setIfInBounds_ne (by omega)]; exact a
  · rw [Array.getElem?_setIfInBounds_ne (by omega)]; exact b
  · rw [Array.getElem?_setIfInBounds_ne (by omega)]; exact c
  · rw [Array.getElem?_setIfInBounds_ne (by omega)]; exact d
theorem four_on {cs : Array Value} {o : Nat} {t : Cg.Tx} (h : Four cs o t) (hs : o + 3 < cs.size) :
    (∀ a : Nat, Four (cs.setIfInBounds o (.int .i64 (a : Int))) o { t with st := a }) ∧ (∀ a : Nat, Four (cs.setIfInBounds (o + 1) (.int .i64 (a : Int))) o { t with csn := a }) ∧
    (∀ a : Nat, Four (cs.setIfInBounds (o + 2) (.int .i64 (a : Int))) o { t with snap := a }) ∧ (∀ a : Bool, Four (cs.setIfInBounds (o + 3) (.bool a)) o { t with rd := a }) := by
  obtain ⟨a, b, c, d⟩ := h
  have sm : ∀ (i : Nat) (u : Value), i < cs.size → (cs.setIfInBounds i u)[i]? = some u := fun i u hi => by rw [Array.getElem?_setIfInBounds_self]; simp [hi]
  have ne : ∀ (i j : Nat) (u : Value), i ≠ j → (cs.setIfInBounds i u)[j]? = cs[j]? := fun i j u hi => Array.getElem?_setIfInBounds_ne hi
  refine ⟨fun x => ⟨?_, ?_, ?_, ?_⟩, fun x => ⟨?_, ?_, ?_, ?_⟩, fun x => ⟨?_, ?_, ?_, ?_⟩, fun x => ⟨?_, ?_, ?_, ?_⟩⟩
  · exact sm _ _ (by omega)
  · rw [ne _ _ _ (by omega)]; exact b
  · rw [ne _ _ _ (by omega)]; exact c
  · rw [ne _ _ _ (by omega)]; exact d
  · rw [ne _ _ _ (by omega)]; exact a
  · exact sm _ _ (by omega)
  · rw [ne _ _ _ (by omega)]; exact c
  · rw [ne _ _ _ (by omega)]; exact d
  · rw [ne _ _ _ (by omega)]; exact a
  · rw [ne _ _ _ (by omega)]; exact b
  · exact sm _ _ (by omega)
  · rw [ne _ _ _ (by omega)]; exact d
  · rw [ne _ _ _ (by omega)]; exact a
  · rw [ne _ _ _ (by omega)]; exact b
  · rw [ne _ _ _ (by omega)]; exact c
  · exact sm _ _ (by omega)
/-- One transaction's cells turn. -/
theorem Cells.on {cs : Array Value} {s : Cg.S} (h : Cells cs s) {k : Nat} (hk : k ≤ 200) (r : Nat) (hr : r < 4) (u : Value) (t : Cg.Tx) (ht : Four (cs.setIfInBounds (k * 4 + r) u) (k * 4) t) : Cells (cs.setIfInBounds (k * 4 + r) u) { s with f := Cg.upd s.f k t } := by
  refine ⟨by simpa using h.size, fun i hi => ?_, ?_, ?_⟩
  · show Four _ _ (Cg.upd s.f k t i)
    by_cases e : i = k
    · rw [e, Cg.upd_same]; exact ht
    · rw [Cg.upd_other _ _ e]; exact four_off (h.tx i hi) (by omega)
  · rw [Array.getElem?_setIfInBounds_ne (by omega)]; exact h.n
  · rw [Array.getElem?_setIfInBounds_ne (by omega)]; exact h.clk
variable {w : World} {p : Nat} {s : Cg.S}
theorem Lg.setN (h : Lg w p s) (a : Nat) : Lg (w.setCell ⟨p, 804, none⟩ (.int .i64 (a : Int))) p { s with n := a } := by
  obtain ⟨cs, h1, h2⟩ := h
  refine ⟨_, heap_setCell_same w p _ _ _ _ h1, by simpa using h2.size, fun i hi => four_off (h2.tx i hi) (by omega), ?_, ?_⟩
  · rw [Array.getElem?_setIfInBounds_self]; simp [h2.size]
  · rw [Array.getElem?_setIfInBounds_ne (by omega)]; exact h2.clk
theorem Lg.setClk (h : Lg w p s) (a : Nat) : Lg (w.setCell ⟨p, 805, none⟩ (.int .i64 (a : Int))) p { s with clk := a } := by
  obtain ⟨cs, h1, h2⟩ := h
  refine ⟨_, heap_setCell_same w p _ _ _ _ h1, by simpa using h2.size, fun i hi => four_off (h2.tx i hi) (by omega), ?_, ?_⟩
  · rw [Array.getElem?_setIfInBounds_ne (by omega)]; exact h2.n
  · rw [Array.getElem?_setIfInBounds_self]; simp [h2.size]
theorem Lg.setSt (h : Lg w p s) {k : Nat} (hk : k ≤ 200) (a : Nat) : Lg (w.setCell ⟨p, k * 4, none⟩ (.int .i64 (a : Int))) p { s with f := Cg.upd s.f k { s.f k with st := a } } := by
  obtain ⟨cs, h1, h2⟩ := h
  have q := (four_on (h2.tx k hk) (by rw [h2.size]; omega)).1 a
  exact ⟨_, heap_setCell_same w p _ _ _ _ h1, h2.on hk 0 (by omega) _ _ q⟩
theorem Lg.setCsn (h : Lg w p s) {k : Nat} (hk : k ≤ 200) (a : Nat) : Lg (w.setCell ⟨p, k * 4 + 1, none⟩ (.int .i64 (a : Int))) p { s with f := Cg.upd s.f k { s.f k with csn := a } } := by
  obtain ⟨cs, h1, h2⟩ := h
  have q := (four_on (h2.tx k hk) (by rw [h2.size]; omega)).2.1 a
  exact ⟨_, heap_setCell_same w p _ _ _ _ h1, h2.on hk 1 (by omega) _ _ q⟩
theorem Lg.setSnap (h : Lg w p s) {k : Nat} (hk : k ≤ 200) (a : Nat) : Lg (w.setCell ⟨p, k * 4 + 2, none⟩ (.int .i64 (a : Int))) p { s with f := Cg.upd s.f k { s.f k with snap := a } } := by
  obtain ⟨cs, h1, h2⟩ := h
  have q := (four_on (h2.tx k hk) (by rw [h2.size]; omega)).2.2.1 a
  exact ⟨_, heap_setCell_same w p _ _ _ _ h1, h2.on hk 2 (by omega) _ _ q⟩
theorem Lg.setRd (h : Lg w p s) {k : Nat} (hk : k ≤ 200) (a : Bool) : Lg (w.setCell ⟨p, k * 4 + 3, none⟩ (.bool a)) p { s with f := Cg.upd s.f k { s.f k with rd := a } } := by
  obtain ⟨cs, h1, h2⟩ := h
  have q := (four_on (h2.tx k hk) (by rw [h2.size]; omega)).2.2.2 a
  exact ⟨_, heap_setCell_same w p _ _ _ _ h1, h2.on hk 3 (by omega) _ _ q⟩
theorem Lg.drew (h : Lg w p s) : Lg w.drew p s := h
theorem Lg.put (h : Lg w p s) {k : Nat} (hk : k ≤ 200) (a b c : Nat) (d : Bool) : Lg ((((w.setCell ⟨p, k * 4, none⟩ (.int .i64 (a : Int))).setCell ⟨p, k * 4 + 1, none⟩ (.int .i64 (b : Int))).setCell ⟨p, k * 4 + 2, none⟩ (.int .i64 (c : Int))).setCell ⟨p, k * 4 + 3, none⟩ (.bool d)) p { s with f := Cg.upd s.f k ⟨a, b, c, d⟩ } := by
  have q := (((h.setSt hk a).setCsn hk b).setSnap hk c).setRd hk d
  simpa only [Cg.upd_upd, Cg.upd_same] using q
end Mm

set_option maxRecDepth 100000 in
set_option maxHeartbeats 2000000 in
theorem end_any (w : World) (p : Nat) (s : Cg.S) (x : Int) (t : Nat) (h : Hid (Mm.Lg w p s)) (hn : s.n ≤ 200) :
    Calls Try.prog 57 #[.pointer (some ⟨p, 0, none⟩), .int .i64 x, .int .i64 (t : Int)] w fun e w' => e = .returned (.int .i64 (Cg.endE s x : Int)) ∧ Mm.Lg w' p (if (Cg.gt s x).st = 1 then { s with f := Cg.upd s.f x.toNat { s.f x.toNat with st := t } } else s) ∧ Mm.Tch p w w' := by
  have HV : Hid (Mm.Lv w (.pointer (some ⟨p, 0, none⟩)) s) := Mm.hid (Or.inl ⟨p, rfl, h.out⟩)
  by_cases h1 : (Cg.gt s x).st = 1
  · obtain ⟨k, rfl, h2, h3⟩ := Cg.gt_some (s := s) (x := x) (by omega)
    have g1 : (((Cg.gt s (k : Int)).st : Int) != 1) = false := by simp; omega
    rw [if_pos h1, show Cg.endE s (k : Int) = 0 from by simp [Cg.endE, h1], show ((k : Int)).toNat = k from rfl]
    go_enter Try.func57, Try.ntmps57
    go_wp2_with fail
    refine (state_any w _ s _ HV hn).mono ?_
    rintro e w1 ⟨rfl, hb⟩
    have HB := Mm.hid hb
    have HL := Mm.hid (h.out.below hb)
    have hl1 := HL.out.lt
    have hf1 := HL.out.fr
    obtain ⟨d0, -, -, -⟩ := HL.out.at (i := k) (by omega)
    have g3 : (0 : Int) ≤ (k : Int) := by omega
    have g4 : (k : Int) < 201 := by omega
    clear hb h1
    go_wp2_with fail
    go_ret
    exact ⟨rfl, HL.out.setSt (by omega) t, (Mm.Tch.of HB.out).set h.out.lt _ _⟩
  · have g1 : (((Cg.gt s x).st : Int) != 1) = true := by simp; omega
    rw [if_neg h1, show Cg.endE s x = 76 from by simp [Cg.endE, h1]]
    go_enter Try.func57, Try.ntmps57
    go_wp2_with fail
    refine (state_any w _ s _ HV hn).mono ?_
    rintro e w1 ⟨rfl, hb⟩
    have HB := Mm.hid hb
    have HL := Mm.hid (h.out.below hb)
    clear hb h1
    go_wp2_with fail
    go_ret
    exact ⟨rfl, HL.out, Mm.Tch.of HB.out⟩

set_option maxRecDepth 100000 in
set_option maxHeartbeats 2000000 in
theorem begin_any (w : World) (p : Nat) (s : Cg.S) (x : Bool) (h : Hid (Mm.Lg w p s)) (hn : s.n ≤ 200) :
    Calls Try.prog 25 #[.pointer (some ⟨p, 0, none⟩), .bool x] w fun e w' => e = .returned (.tuple #[.int .i64 (Cg.begA s : Int), .int .i64 (Cg.begE s : Int)]) ∧ Mm.Lg w' p (Cg.begS s x) ∧ Mm.Tch p w w' := by
  have c1 := h.out.nAt
  have c2 := h.out.clkAt
  have hlt := h.out.lt
  by_cases h1 : s.n = 200
  · have g0 : ((s.n : Int) == 200) = true := by simp; omega
    rw [show Cg.begA s = 0 from by simp [Cg.begA, h1], show Cg.begE s = 74 from by simp [Cg.begE, h1], show Cg.begS s x = s from by simp [Cg.begS, h1]]
    clear h1
    go_enter Try.func25, Try.ntmps25
    go_wp2_with fail
    go_ret2
    exact ⟨rfl, h.out, Mm.Tch.refl _ _⟩
  · obtain ⟨d0, d1, d2, d3⟩ := h.out.at (i := s.n + 1) (by omega)
    have hf := h.out.fr
    have g0 : ((s.n : Int) == 200) = false := by simp; omega
    have g3 : (0 : Int) ≤ (s.n : Int) + 1 := by omega
    have g4 : (s.n : Int) + 1 < 201 := by omega
    rw [show Cg.begA s = s.n + 1 from by simp [Cg.begA, h1], show Cg.begE s = 0 from by simp [Cg.begE, h1], show Cg.begS s x = Cg.beg s x from by simp [Cg.begS, h1]]
    clear h1
    go_enter Try.func25, Try.ntmps25
    go_wp2_with fail
    go_region
    obtain ⟨w2, hw2⟩ : ∃ w2, (((((w.setCell ⟨p, 804, none⟩ (.int .i64 ((s.n : Int) + 1))).setCell ⟨p, (s.n + 1) * 4, none⟩ (.int .i64 1)).setCell ⟨p, (s.n + 1) * 4 + 1, none⟩ (.int .i64 0)).setCell ⟨p, (s.n + 1) * 4 + 2, none⟩ (.int .i64 (s.clk : Int))).setCell ⟨p, (s.n + 1) * 4 + 3, none⟩ (.bool x)).drew = w2 := ⟨_, rfl⟩
    have hL2 : Mm.Lg (((((w.setCell ⟨p, 804, none⟩ (.int .i64 ((s.n : Int) + 1))).setCell ⟨p, (s.n + 1) * 4, none⟩ (.int .i64 1)).setCell ⟨p, (s.n + 1) * 4 + 1, none⟩ (.int .i64 0)).setCell ⟨p, (s.n + 1) * 4 + 2, none⟩ (.int .i64 (s.clk : Int))).setCell ⟨p, (s.n + 1) * 4 + 3, none⟩ (.bool x)).drew p (Cg.beg s x) := ((h.out.setN (s.n + 1)).put (k := s.n + 1) (by omega) 1 0 s.clk x).drew
    have hT2 : Mm.Tch p w (((((w.setCell ⟨p, 804, none⟩ (.int .i64 ((s.n : Int) + 1))).setCell ⟨p, (s.n + 1) * 4, none⟩ (.int .i64 1)).setCell ⟨p, (s.n + 1) * 4 + 1, none⟩ (.int .i64 0)).setCell ⟨p, (s.n + 1) * 4 + 2, none⟩ (.int .i64 (s.clk : Int))).setCell ⟨p, (s.n + 1) * 4 + 3, none⟩ (.bool x)).drew := ((((((Mm.Tch.refl p w).set hlt _ _).set hlt _ _).set hlt _ _).set hlt _ _).set hlt _ _).drew
    rw [hw2] at hL2 hT2 ⊢
    have HL2 := Mm.hid hL2
    have HT2 := Mm.hid hT2
    have e1 := hL2.nAt
    clear c1 c2 d0 d1 d2 d3 hf hw2 hL2 hT2
    go_wp2_with fail
    go_ret2
    exact ⟨rfl, HL2.out, HT2.out⟩

set_option maxRecDepth 100000 in
set_option maxHeartbeats 2000000 in
theorem commit_any (w : World) (p : Nat) (s : Cg.S) (x : Int) (h : Hid (Mm.Lg w p s)) (hn : s.n ≤ 200) (hc : s.clk < 1000000) :
    Calls Try.prog 26 #[.pointer (some ⟨p, 0, none⟩), .int .i64 x] w fun e w' => e = .returned (.tuple #[.int .i64 (Cg.comA s x : Int), .int .i64 (Cg.endE s x : Int)]) ∧ Mm.Lg w' p (Cg.comS s x) ∧ Mm.Tch p w w' := by
  have hlt := h.out.lt
  by_cases h1 : (Cg.gt s x).st = 1
  · obtain ⟨k, rfl, h2, h3⟩ := Cg.gt_some (s := s) (x := x) (by omega)
    rw [show Cg.comA s (k : Int) = s.clk + 1 from by simp [Cg.comA, h1], show Cg.endE s (k : Int) = 0 from by simp [Cg.endE, h1], show Cg.comS s (k : Int) = Cg.com s k from by simp [Cg.comS, h1]]
    go_enter Try.func26, Try.ntmps26
    go_wp2_with fail
    refine (end_any w p s (k : Int) 2 h hn).mono ?_
    rintro e w1 ⟨rfl, hl, hb⟩
    rw [show Cg.endE s (k : Int) = 0 from by simp [Cg.endE, h1]]
    rw [if_pos h1] at hl
    simp only [Int.toNat_natCast] at hl
    have HB := Mm.hid hb
    have HL := Mm.hid hl
    have hl1 := hl.lt
    have hf1 := hl.fr
    have c1 := hl.clkAt
    obtain ⟨d0, d1, -, -⟩ := hl.at (i := k) (by omega)
    have g3 : (0 : Int) ≤ (k : Int) := by omega
    have g4 : (k : Int) < 201 := by omega
    clear hb h1 hl
    go_wp2_with fail
    go_region
    obtain ⟨w2, hw2⟩ : ∃ w2, ((w1.setCell ⟨p, 805, none⟩ (.int .i64 ((s.clk : Int) + 1))).setCell ⟨p, k * 4 + 1, none⟩ (.int .i64 ((s.clk : Int) + 1))).drew = w2 := ⟨_, rfl⟩
    have hL2 : Mm.Lg ((w1.setCell ⟨p, 805, none⟩ (.int .i64 ((s.clk : Int) + 1))).setCell ⟨p, k * 4 + 1, none⟩ (.int .i64 ((s.clk : Int) + 1))).drew p (Cg.com s k) := by
      have q := ((HL.out.setClk (s.clk + 1)).setCsn (k := k) (by omega) (s.clk + 1)).drew
      simp only [Cg.upd_upd, Cg.upd_same] at q
      exact q
    have hT2 : Mm.Tch p w ((w1.setCell ⟨p, 805, none⟩ (.int .i64 ((s.clk : Int) + 1))).setCell ⟨p, k * 4 + 1, none⟩ (.int .i64 ((s.clk : Int) + 1))).drew := ((HB.out.set hlt _ _).set hlt _ _).drew
    rw [hw2] at hL2 hT2 ⊢
    have HL2 := Mm.hid hL2
    have HT2 := Mm.hid hT2
    have e1 : w2.cell? ⟨p, 805, none⟩ = some (.int .i64 ((s.clk : Int) + 1)) := hL2.clkAt
    clear c1 d0 d1 hf1 hl1 HL HB hw2 hL2 hT2
    go_wp2_with fail
    go_ret2
    exact ⟨rfl, HL2.out, HT2.out⟩
  · rw [show Cg.comA s x = 0 from by simp [Cg.comA, h1], show Cg.endE s x = 76 from by simp [Cg.endE, h1], show Cg.comS s x = s from by simp [Cg.comS, h1]]
    go_enter Try.func26, Try.ntmps26
    go_wp2_with fail
    refine (end_any w p s x 2 h hn).mono ?_
    rintro e w1 ⟨rfl, hl, hb⟩
    rw [show Cg.endE s x = 76 from by simp [Cg.endE, h1]]
    rw [if_neg h1] at hl
    have HB := Mm.hid hb
    have HL := Mm.hid hl
    clear hb h1 hl
    go_wp2_with fail
    go_ret2
    exact ⟨rfl, HL.out, HB.out⟩

set_option maxRecDepth 100000 in
set_option maxHeartbeats 2000000 in
theorem abort_any (w : World) (p : Nat) (s : Cg.S) (x : Int) (h : Hid (Mm.Lg w p s)) (hn : s.n ≤ 200) :
    Calls Try.prog 27 #[.pointer (some ⟨p, 0, none⟩), .int .i64 x] w fun e w' => e = .returned (.int .i64 (Cg.endE s x : Int)) ∧ Mm.Lg w' p (Cg.aboS s x) ∧ Mm.Tch p w w' := by
  go_enter Try.func27, Try.ntmps27
  go_wp2_with fail
  refine (end_any w p s x 3 h hn).mono ?_
  rintro e w1 ⟨rfl, hl, hb⟩
  have HB := Mm.hid hb
  have HL : Hid (Mm.Lg w1 p (Cg.aboS s x)) := Mm.hid (by unfold Cg.aboS Cg.abo; exact hl)
  clear hb hl
  go_wp2_with fail
  go_ret
  exact ⟨rfl, HL.out, HB.out⟩
end Go.Proofs.Ytoobljkjhpkghaa
