/- The reference's Commit, Abort, Beside. -/
import Derived.Test.YtdbbamjijhaeoaaCd4
import Derived.Test.YtdbbamjijhaeoaaCd2
namespace Go.Proofs.Ytdbbamjijhaeoaa
open Go.RowKit

namespace Mm
theorem Fr.off {cs : Array Value} {o j : Nat} {t : Cg.Tx} {u : Value} (h : Fr cs o t) (hj : j < o ∨ o + 3 < j) : Fr (cs.setIfInBounds j u) o t := by
  obtain ⟨a, b, c, d⟩ := h
  refine ⟨?_, ?_, ?_, ?_⟩
  · rw [Array.getElem?_setIfInBounds_ne (by omega)]; exact a
  · rw [Array.getElem?_setIfInBounds_ne (by omega)]; exact b
  · rw [Array.getElem?_setIfInBounds_ne (by omega)]; exact c
  · rw [Array.getElem?_setIfInBounds_ne (by omega)]; exact d
theorem Fr.lt {cs : Array Value} {o : Nat} {t : Cg.Tx} (h : Fr cs o t) : o + 3 < cs.size := (Array.getElem?_eq_some_iff.1 h.2.2.2).1
theorem Fr.setSt {cs : Array Value} {o : Nat} {t : Cg.Tx} (h : Fr cs o t) (a : Nat) : Fr (cs.setIfInBounds o (.int .i64 (a : Int))) o { t with st := a } := by
  have hl := h.lt
  obtain ⟨_, b, c, d⟩ := h
  refine ⟨?_, ?_, ?_, ?_⟩
  · rw [Array.getElem?_setIfInBounds_self]; simp; omega
  · rw [Array.getElem?_setIfInBounds_ne (by omega)]; exact b
  · rw [Array.getElem?_setIfInBounds_ne (by omega)]; exact c
  · rw [Array.getElem?_setIfInBounds_ne (by omega)]; exact d
theorem Fr.setCsn {cs : Array Value} {o : Nat} {t : Cg.Tx} (h : Fr cs o t) (a : Nat) : Fr (cs.setIfInBounds (o + 2) (.int .i64 (a : Int))) o { t with csn := a } := by
  have hl := h.lt
  obtain ⟨x, b, _, d⟩ := h
  refine ⟨?_, ?_, ?_, ?_⟩
  · rw [Array.getElem?_setIfInBounds_ne (by omega)]; exact x
  · rw [Array.getElem?_setIfInBounds_ne (by omega)]; exact b
  · rw [Array.getElem?_setIfInBounds_self]; simp; omega
  · rw [Array.getElem?_setIfInBounds_ne (by omega)]; exact d
variable {w : World} {q g : Nat} {s : Cg.S} {n' c' : Nat}
theorem Rl.put (h : Rl w q s) {k : Nat} (hk : k < s.n) (hc : w.cell? ⟨q, 0, none⟩ = some (.slice (some ⟨g, 0, none⟩) n' c')) (j : Nat) (hj : k * 4 ≤ j ∧ j < k * 4 + 4) (u : Value) (t : Cg.Tx) (ht : ∀ cs : Array Value, Fr cs (k * 4) (s.f (k + 1)) → Fr (cs.setIfInBounds j u) (k * 4) t) : Rl (w.setCell ⟨g, j, none⟩ u) q { s with f := Cg.upd s.f (k + 1) t } := by
  obtain ⟨v, h1, h2⟩ := h
  have hv : w.cell? ⟨q, 0, none⟩ = some v := cellOf h1 rfl
  rw [hc] at hv
  injection hv with hv
  subst hv
  rcases h2 with ⟨h2, _⟩ | ⟨g2, cap, cur, e, h3, h4, h5, h6⟩
  · omega
  · cases e
    refine ⟨_, (heap_setCell_other w ⟨g, j, none⟩ q u (by show q ≠ g; omega)).trans h1, Or.inr ⟨g, c', _, rfl, h3, h4, heap_setCell_same w g j _ _ u h5, fun i hi => ?_⟩⟩
    show Fr _ _ (Cg.upd s.f (k + 1) t (i + 1))
    by_cases e : i = k
    · rw [e, Cg.upd_same]; exact ht _ (h6 k hk)
    · rw [Cg.upd_other _ _ (by omega)]; exact (h6 i hi).off (by omega)
theorem Rl.setClk (h : Rl w q s) (a : Nat) : Rl (w.setCell ⟨q, 1, none⟩ (.int .i64 (a : Int))) q { s with clk := a } := by
  obtain ⟨v, h1, h2⟩ := h
  exact ⟨v, Lk.set1_heap h1, Rw.keep (w := w) (s := { s with clk := a }) h2 (fun g hg _ => heap_setCell_other w ⟨q, 1, none⟩ g _ (by show g ≠ q; omega))⟩
theorem Rl.rowLt (h : Rl w q s) (hc : w.cell? ⟨q, 0, none⟩ = some (.slice (some ⟨g, 0, none⟩) n' c')) : g < w.heap.size := by
  obtain ⟨v, h1, h2⟩ := h
  have hv : w.cell? ⟨q, 0, none⟩ = some v := cellOf h1 rfl
  rw [hc] at hv
  injection hv with hv
  subst hv
  rcases h2 with ⟨_, h2⟩ | ⟨g2, cap, cur, e, _, _, h5, _⟩
  · cases h2
  · cases e; exact heapLt h5
theorem Rl.drew (h : Rl w q s) : Rl w.drew q s := h
end Mm

set_option maxRecDepth 100000 in
set_option maxHeartbeats 2000000 in
theorem refAbort_any (w : World) (q : Nat) (s : Cg.S) (x : Int) (h : Hid (Mm.Rl w q s)) (hn : s.n ≤ 200) :
    Calls Try.prog 28 #[.pointer (some ⟨q, 0, none⟩), .int .i64 x] w fun e w' => e = .returned (.int .i64 (Cg.endE s x : Int)) ∧ Mm.Rl w' q (Cg.aboS s x) ∧ Below q w w' ∧ ∀ b, b < w.heap.size → (∀ c n' c', w.cell? ⟨q, 0, none⟩ = some (.slice (some ⟨c, 0, none⟩) n' c') → b ≠ c) → w'.heap[b]? = w.heap[b]? := by
  have hgl := Mm.gl0
  have hlt := h.out.lt
  by_cases h1 : (Cg.gt s x).st = 1
  · obtain ⟨k', rfl, h2, h3⟩ := Cg.gt_some (s := s) (x := x) (by omega)
    obtain ⟨k, rfl⟩ : ∃ k, k' = k + 1 := ⟨k' - 1, by omega⟩
    have g1 : (((Cg.gt s ((k + 1 : Nat) : Int)).st : Int) != 1) = false := by rw [h1]; rfl
    rw [show Cg.endE s ((k + 1 : Nat) : Int) = 0 from by simp only [Cg.endE, h1, if_true], show Cg.aboS s ((k + 1 : Nat) : Int) = Cg.abo s (k + 1) from by simp only [Cg.aboS, h1, if_true]; rfl]
    clear h1
    rw [show ((k + 1 : Nat) : Int) = (k : Int) + 1 from rfl] at g1 ⊢
    go_enter Try.func28, Try.ntmps28
    go_wp2_with fail
    refine (refGet_any w q s ((k : Int) + 1) h hn).mono ?_
    rintro e w1 ⟨rfl, hb⟩
    have HB := Mm.hid hb
    have HL := Mm.hid (h.out.below hb)
    obtain ⟨p, c, c0, hc, hat⟩ := HL.out.look
    obtain ⟨g, rfl, hqg, hf0, hf2, d0, -, d2, -⟩ := hat k (by omega)
    have hl1 := HL.out.lt
    have g3 : (0 : Int) ≤ (k : Int) := by omega
    have g4 : (k : Int) < (s.n : Int) := by omega
    have HC0 := Mm.hid c0
    have HCW : Hid (w.cell? ⟨q, 0, none⟩ = some (.slice (some ⟨g, 0, none⟩) s.n c)) := Mm.hid (by rw [← c0]; exact (HB.out.cell (p := ⟨q, 0, none⟩) hlt).symm)
    clear hb hat
    go_wp2_with fail
    go_ret
    exact ⟨rfl, HL.out.put (by omega) HC0.out (k * 4) ⟨by omega, by omega⟩ _ _ (fun cs hcs => hcs.setSt 3), (HB.out.mono (Nat.le_of_lt hlt)).setCell (Nat.le_of_lt hqg) _, fun b hb hne => (heap_setCell_other _ ⟨g, k * 4, none⟩ b _ (hne g _ _ HCW.out)).trans (HB.out.block b hb)⟩
  · have g1 : (((Cg.gt s x).st : Int) != 1) = true := by simp; omega
    rw [show Cg.endE s x = 76 from by simp only [Cg.endE, h1, if_false], show Cg.aboS s x = s from by simp only [Cg.aboS, h1, if_false]]
    clear h1
    go_enter Try.func28, Try.ntmps28
    go_wp2_with fail
    refine (refGet_any w q s x h hn).mono ?_
    rintro e w1 ⟨rfl, hb⟩
    have HB := Mm.hid hb
    have HL := Mm.hid (h.out.below hb)
    clear hb
    go_wp2_with fail
    go_ret
    exact ⟨rfl, HL.out, HB.out.mono (Nat.le_of_lt hlt), fun b hb _ => HB.out.block b hb⟩

set_option maxRecDepth 100000 in
set_option maxHeartbeats 2000000 in
theorem refCommit_any (w : World) (q : Nat) (s : Cg.S) (x : Int) (h : Hid (Mm.Rl w q s)) (hn : s.n ≤ 200) (hc0 : s.clk < 1000000) :
    Calls Try.prog 27 #[.pointer (some ⟨q, 0, none⟩), .int .i64 x] w fun e w' => e = .returned (.tuple #[.int .i64 (Cg.comA s x : Int), .int .i64 (Cg.endE s x : Int)]) ∧ Mm.Rl w' q (Cg.comS s x) ∧ Below q w w' := by
  have hgl := Mm.gl0
  have hlt := h.out.lt
  by_cases h1 : (Cg.gt s x).st = 1
  · obtain ⟨k', rfl, h2, h3⟩ := Cg.gt_some (s := s) (x := x) (by omega)
    obtain ⟨k, rfl⟩ : ∃ k, k' = k + 1 := ⟨k' - 1, by omega⟩
    have g1 : (((Cg.gt s ((k + 1 : Nat) : Int)).st : Int) != 1) = false := by rw [h1]; rfl
    rw [show Cg.endE s ((k + 1 : Nat) : Int) = 0 from by simp only [Cg.endE, h1, if_true], show Cg.comA s ((k + 1 : Nat) : Int) = s.clk + 1 from by simp only [Cg.comA, h1, if_true], show Cg.comS s ((k + 1 : Nat) : Int) = Cg.com s (k + 1) from by simp only [Cg.comS, h1, if_true]; rfl]
    clear h1
    rw [show ((k + 1 : Nat) : Int) = (k : Int) + 1 from rfl] at g1 ⊢
    go_enter Try.func27, Try.ntmps27
    go_wp2_with fail
    refine (refGet_any w q s ((k : Int) + 1) h hn).mono ?_
    rintro e w1 ⟨rfl, hb⟩
    have HB := Mm.hid hb
    have HL := Mm.hid (h.out.below hb)
    have c1 := HL.out.clkAt
    have hf1 := HL.out.fr
    have hl1 := HL.out.lt
    clear hb
    go_wp2_with fail
    obtain ⟨W2, hW2⟩ : ∃ W2, w1.setCell ⟨q, 1, none⟩ (.int .i64 ((s.clk : Int) + 1)) = W2 := ⟨_, rfl⟩
    have hL2 : Mm.Rl (w1.setCell ⟨q, 1, none⟩ (.int .i64 ((s.clk : Int) + 1))) q { s with clk := s.clk + 1 } := HL.out.setClk (s.clk + 1)
    have hB2 : Below q w (w1.setCell ⟨q, 1, none⟩ (.int .i64 ((s.clk : Int) + 1))) := (HB.out.mono (Nat.le_of_lt hlt)).setCell (Nat.le_refl _) _
    rw [hW2] at hL2 hB2 ⊢
    have HL2 := Mm.hid hL2
    have HB2 := Mm.hid hB2
    clear hW2 hL2 hB2 c1 hf1 hl1
    obtain ⟨p, c, c0, hc, hat⟩ := HL2.out.look
    obtain ⟨g, rfl, hqg, hf0, hf2, d0, -, d2, -⟩ := hat k (by show k < s.n; omega)
    dsimp only at hc c0 d0 d2
    have c1 : W2.cell? ⟨q, 1, none⟩ = some (.int .i64 ((s.clk : Int) + 1)) := HL2.out.clkAt
    have hl1 := HL2.out.lt
    have hqg2 : q ≠ g := Nat.ne_of_lt hqg
    have g3 : (0 : Int) ≤ (k : Int) := by omega
    have g4 : (k : Int) < (s.n : Int) := by omega
    have HC0 := Mm.hid c0
    have HQG := Mm.hid hqg
    clear hat
    go_region
    obtain ⟨W3, hW3⟩ : ∃ W3, ((W2.setCell ⟨g, k * 4, none⟩ (.int .i64 2)).setCell ⟨g, k * 4 + 2, none⟩ (.int .i64 ((s.clk : Int) + 1))).drew = W3 := ⟨_, rfl⟩
    have hc2 : (W2.setCell ⟨g, k * 4, none⟩ (.int .i64 2)).cell? ⟨q, 0, none⟩ = some (.slice (some ⟨g, 0, none⟩) s.n c) := (Mm.scOther _ _ _ _ (fun e => by injection e with e; omega)).trans HC0.out
    have hL3 : Mm.Rl ((W2.setCell ⟨g, k * 4, none⟩ (.int .i64 2)).setCell ⟨g, k * 4 + 2, none⟩ (.int .i64 ((s.clk : Int) + 1))).drew q (Cg.com s (k + 1)) := by
      have a1 := HL2.out.put (k := k) (by show k < s.n; omega) HC0.out (k * 4) ⟨by omega, by omega⟩ (.int .i64 2) _ (fun cs hcs => hcs.setSt 2)
      have a2 := Mm.Rl.put a1 (k := k) (by show k < s.n; omega) hc2 (k * 4 + 2) ⟨by omega, by omega⟩ (.int .i64 ((s.clk : Int) + 1)) _ (fun cs hcs => hcs.setCsn (s.clk + 1))
      simp only [Cg.upd_upd, Cg.upd_same] at a2
      exact a2.drew
    have hB3 : Below q w ((W2.setCell ⟨g, k * 4, none⟩ (.int .i64 2)).setCell ⟨g, k * 4 + 2, none⟩ (.int .i64 ((s.clk : Int) + 1))).drew := ((HB2.out.setCell (p := ⟨g, k * 4, none⟩) (Nat.le_of_lt HQG.out) _).setCell (p := ⟨g, k * 4 + 2, none⟩) (Nat.le_of_lt HQG.out) _).drew
    rw [hW3] at hL3 hB3 ⊢
    have e1 : W3.cell? ⟨q, 1, none⟩ = some (.int .i64 ((s.clk : Int) + 1)) := hL3.clkAt
    have HL3 := Mm.hid hL3
    have HB3 := Mm.hid hB3
    clear hW3 hL3 hB3 hc2 c0 c1 d0 d2 hf0 hf2
    go_wp2_with fail
    go_ret2
    exact ⟨rfl, HL3.out, HB3.out⟩
  · have g1 : (((Cg.gt s x).st : Int) != 1) = true := by simp; omega
    rw [show Cg.endE s x = 76 from by simp only [Cg.endE, h1, if_false], show Cg.comA s x = 0 from by simp only [Cg.comA, h1, if_false], show Cg.comS s x = s from by simp only [Cg.comS, h1, if_false]]
    clear h1
    go_enter Try.func27, Try.ntmps27
    go_wp2_with fail
    refine (refGet_any w q s x h hn).mono ?_
    rintro e w1 ⟨rfl, hb⟩
    have HB := Mm.hid hb
    have HL := Mm.hid (h.out.below hb)
    clear hb
    go_wp2_with fail
    go_ret2
    exact ⟨rfl, HL.out, HB.out.mono (Nat.le_of_lt hlt)⟩

set_option maxRecDepth 100000 in
set_option maxHeartbeats 4000000 in
theorem refBeside_any (w : World) (q : Nat) (s : Cg.S) (x y : Int) (h : Hid (Mm.Rl w q s)) (hi : Hid (Cg.Inv s)) :
    Calls Try.prog 15 #[.pointer (some ⟨q, 0, none⟩), .int .i64 x, .int .i64 y] w fun e w' => e = .returned (.bool (Cg.beside s x y)) ∧ Below w.heap.size w w' := by
  have hn := hi.out.le
  obtain ⟨tx, htx⟩ : ∃ t, Cg.gt s x = t := ⟨_, rfl⟩
  obtain ⟨ty, hty⟩ : ∃ t, Cg.gt s y = t := ⟨_, rfl⟩
  have sx := hi.out.gst x
  have sy := hi.out.gst y
  rw [htx] at sx
  rw [hty] at sy
  have HTX := Mm.hid htx
  have HTY := Mm.hid hty
  have hbs : Cg.beside s x y = (Cg.counts tx && Cg.counts ty && !Cg.sees s x y && !Cg.sees s y x) := by unfold Cg.beside; rw [htx, hty]
  obtain ⟨b3, hb3⟩ : ∃ b, Cg.sees s x y = b := ⟨_, rfl⟩
  obtain ⟨b4, hb4⟩ : ∃ b, Cg.sees s y x = b := ⟨_, rfl⟩
  have C3 : Hid (∀ wz, Hid (Mm.Rl wz q s) → Calls Try.prog 13 #[.pointer (some ⟨q, 0, none⟩), .int .i64 x, .int .i64 y] wz fun e w' => e = .returned (.bool b3) ∧ Below wz.heap.size wz w') := Mm.hid (fun wz hz => hb3 ▸ refSees_any wz q s x y hz hn)
  have C4 : Hid (∀ wz, Hid (Mm.Rl wz q s) → Calls Try.prog 13 #[.pointer (some ⟨q, 0, none⟩), .int .i64 y, .int .i64 x] wz fun e w' => e = .returned (.bool b4) ∧ Below wz.heap.size wz w') := Mm.hid (fun wz hz => hb4 ▸ refSees_any wz q s y x hz hn)
  have HQ : Hid (x = y → tx.st ≠ 0 → b3 = true) := Mm.hid (fun e h0 => by
    rw [← hb3]; unfold Cg.sees; rw [htx, e]
    have h1 : (tx.st != 0) = true := by simpa using h0
    rw [h1]; simp)
  have HST : Hid (∃ (a b : Bool), (x == y) = a ∧ (a || (tx.st == 0) || (ty.st == 0) || (tx.st == 3) || (ty.st == 3)) = b ∧ Cg.beside s x y = (!b && (!b3 && !b4))) := Mm.hid (by
    refine ⟨_, _, rfl, rfl, ?_⟩
    rw [hbs, hb3, hb4]
    have cx : Cg.counts tx = !((tx.st == 0) || (tx.st == 3)) := by unfold Cg.counts; rcases sx with e | e | e | e <;> rw [e] <;> rfl
    have cy : Cg.counts ty = !((ty.st == 0) || (ty.st == 3)) := by unfold Cg.counts; rcases sy with e | e | e | e <;> rw [e] <;> rfl
    rw [cx, cy]
    by_cases hxy : x = y
    · by_cases h0 : tx.st = 0
      · simp [h0]
      · rw [HQ.out hxy h0]
        simp
    · have : (x == y) = false := by simpa using hxy
      rw [this]
      cases (tx.st == 0) <;> cases (tx.st == 3) <;> cases (ty.st == 0) <;> cases (ty.st == 3) <;> cases b3 <;> cases b4 <;> rfl)
  obtain ⟨a, b, ha, hb, hr⟩ := HST.out
  rw [hr]
  obtain ⟨q1, hq1⟩ : ∃ q1, (tx.st == 0) = q1 := ⟨_, rfl⟩
  obtain ⟨q2, hq2⟩ : ∃ q2, (ty.st == 0) = q2 := ⟨_, rfl⟩
  obtain ⟨q3, hq3⟩ : ∃ q3, (tx.st == 3) = q3 := ⟨_, rfl⟩
  obtain ⟨q4, hq4⟩ : ∃ q4, (ty.st == 3) = q4 := ⟨_, rfl⟩
  rw [hq1, hq2, hq3, hq4] at hb
  have i1 : ((tx.st : Int) == 0) = q1 := by rw [← hq1, Bool.eq_iff_iff]; simp only [beq_iff_eq]; omega
  have i2 : ((ty.st : Int) == 0) = q2 := by rw [← hq2, Bool.eq_iff_iff]; simp only [beq_iff_eq]; omega
  have i3 : ((tx.st : Int) == 3) = q3 := by rw [← hq3, Bool.eq_iff_iff]; simp only [beq_iff_eq]; omega
  have i4 : ((ty.st : Int) == 3) = q4 := by rw [← hq4, Bool.eq_iff_iff]; simp only [beq_iff_eq]; omega
  clear hq1 hq2 hq3 hq4 HST hr HQ hb3 hb4 hbs sx sy htx hty
  have HHB := Mm.hid hb
  clear hb
  go_enter Try.func15, Try.ntmps15
  go_wp2_with fail
  refine (refGet_any _ q s x h hn).mono ?_
  rintro e w1 ⟨rfl, hb⟩
  rw [HTX.out]
  have HB1 := Mm.hid hb
  have H1 := Mm.hid (h.out.below hb)
  clear hb
  go_wp2_with fail
  refine (refGet_any _ q s y H1 hn).mono ?_
  rintro e w2 ⟨rfl, hb⟩
  rw [HTY.out]
  have HB2 := Mm.hid (HB1.out.trans (hb.mono HB1.out.size))
  have H2 := Mm.hid (H1.out.below hb)
  clear hb
  cases b
  · obtain ⟨rfl, rfl, rfl, rfl, rfl⟩ : a = false ∧ q1 = false ∧ q2 = false ∧ q3 = false ∧ q4 = false := by
      have := HHB.out
      cases a <;> cases q1 <;> cases q2 <;> cases q3 <;> cases q4 <;> simp_all
    have HB4 := Mm.hid ((HB2.out.alloc HB2.out.size (.cells #[.int .i64 (tx.st : Int), .int .i64 (tx.snap : Int), .int .i64 (tx.csn : Int), .bool tx.rd] 61)).alloc (Nat.le_trans HB2.out.size (by simp)) (.cells #[.int .i64 (ty.st : Int), .int .i64 (ty.snap : Int), .int .i64 (ty.csn : Int), .bool ty.rd] 61))
    have H4 := Mm.hid (h.out.below HB4.out)
    clear H1 H2 HB1 HB2
    cases b3
    · go_wp2_with fail
      refine (C3.out _ H4).mono ?_
      rintro e w5 ⟨rfl, hb⟩
      have HB5 := Mm.hid (HB4.out.trans (hb.mono HB4.out.size))
      have H5 := Mm.hid (h.out.below HB5.out)
      clear hb
      go_wp2_with fail
      refine (C4.out _ H5).mono ?_
      rintro e w6 ⟨rfl, hb⟩
      have HB6 := Mm.hid (HB5.out.trans (hb.mono HB5.out.size))
      clear hb
      go_wp2_with fail
      go_ret
      exact ⟨rfl, HB6.out⟩
    · go_wp2_with fail
      refine (C3.out _ H4).mono ?_
      rintro e w5 ⟨rfl, hb⟩
      have HB5 := Mm.hid (HB4.out.trans (hb.mono HB4.out.size))
      clear hb
      go_wp2_with fail
      go_ret
      exact ⟨rfl, HB5.out⟩
  · clear C3 C4
    cases a
    · cases q1
      · cases q2
        · cases q3
          · cases q4
            · exact absurd HHB.out (by decide)
            · go_wp2_with fail
              go_ret
              exact ⟨rfl, ((HB2.out.alloc HB2.out.size (.cells #[.int .i64 (tx.st : Int), .int .i64 (tx.snap : Int), .int .i64 (tx.csn : Int), .bool tx.rd] 61)).alloc (Nat.le_trans HB2.out.size (by simp)) (.cells #[.int .i64 (ty.st : Int), .int .i64 (ty.snap : Int), .int .i64 (ty.csn : Int), .bool ty.rd] 61))⟩
          · go_wp2_with fail
            go_ret
            exact ⟨rfl, ((HB2.out.alloc HB2.out.size (.cells #[.int .i64 (tx.st : Int), .int .i64 (tx.snap : Int), .int .i64 (tx.csn : Int), .bool tx.rd] 61)).alloc (Nat.le_trans HB2.out.size (by simp)) (.cells #[.int .i64 (ty.st : Int), .int .i64 (ty.snap : Int), .int .i64 (ty.csn : Int), .bool ty.rd] 61))⟩
        · go_wp2_with fail
          go_ret
          exact ⟨rfl, ((HB2.out.alloc HB2.out.size (.cells #[.int .i64 (tx.st : Int), .int .i64 (tx.snap : Int), .int .i64 (tx.csn : Int), .bool tx.rd] 61)).alloc (Nat.le_trans HB2.out.size (by simp)) (.cells #[.int .i64 (ty.st : Int), .int .i64 (ty.snap : Int), .int .i64 (ty.csn : Int), .bool ty.rd] 61))⟩
      · go_wp2_with fail
        go_ret
        exact ⟨rfl, ((HB2.out.alloc HB2.out.size (.cells #[.int .i64 (tx.st : Int), .int .i64 (tx.snap : Int), .int .i64 (tx.csn : Int), .bool tx.rd] 61)).alloc (Nat.le_trans HB2.out.size (by simp)) (.cells #[.int .i64 (ty.st : Int), .int .i64 (ty.snap : Int), .int .i64 (ty.csn : Int), .bool ty.rd] 61))⟩
    · go_wp2_with fail
      go_ret
      exact ⟨rfl, ((HB2.out.alloc HB2.out.size (.cells #[.int .i64 (tx.st : Int), .int .i64 (tx.snap : Int), .int .i64 (tx.csn : Int), .bool tx.rd] 61)).alloc (Nat.le_trans HB2.out.size (by simp)) (.cells #[.int .i64 (ty.st : Int), .int .i64 (ty.snap : Int), .int .i64 (ty.csn : Int), .bool ty.rd] 61))⟩
end Go.Proofs.Ytdbbamjijhaeoaa
