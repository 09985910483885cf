/- meet walked. -/
import Derived.Test.YthikdfcndppoaaaWa2
namespace Go.Proofs.Ythikdfcndppoaaa
open Go.RowKit

set_option maxRecDepth 100000 in
set_option maxHeartbeats 2000000 in
theorem meet_any (h : Nat) (w : World) (tag : Nat → Option Mm.Lb) (p : Nat) (ns : List Int) (s : Tj.S) (z : Mm.Sl) (kv : List Value) (x : Nat) (hT : Hid (Mm.Wk h w tag p ns s z kv)) (hx : x < ns.length) (hm : s.met < 100000) (hl : Hid (s.path.length < 100000 ∧ s.opn.length < 100000)) (hh : h ≤ w.heap.size) :
    Calls Try.prog 28 #[.pointer (some ⟨p, 0, none⟩), .int .i64 (x : Int)] w fun e w' => e = .returned (.tuple #[]) ∧
      ∃ tag' z', Mm.Wk h w' tag' p ns (Tj.meet s x) z' kv ∧ z'.vN = z.vN ∧ z'.vE = z.vE ∧ Below h w w' := by
  obtain ⟨gn, cn, en, hcn, -, -, -⟩ := hT.out.num.own.at (Mm.fnc_at s.num hx)
  obtain ⟨gl, cl, el, hcl, -, -, -⟩ := hT.out.low.own.at (Mm.fnc_at s.low hx)
  simp only [Mm.fnc_len] at en el hcn hcl
  have hc5 := hT.out.at 5 rfl
  have hf5 := hT.out.fr 5
  go_enter Try.func28, Try.ntmps28
  go_wp2_with fail
  obtain ⟨w1, hw1⟩ : ∃ w1, w.setCell ⟨p, 5, none⟩ (.int .i64 ((s.met : Int) + 1)) = w1 := ⟨_, rfl⟩
  have hW1 : Mm.Wk h (w.setCell ⟨p, 5, none⟩ (.int .i64 ((s.met : Int) + 1))) tag p ns { s with met := s.met + 1 } z kv := hT.out.setMet (s.met + 1)
  have hB1 : Below h w (w.setCell ⟨p, 5, none⟩ (.int .i64 ((s.met : Int) + 1))) := Mm.setBel (hT.out.ge hT.out.tp) _ _
  rw [hw1] at hW1 hB1 ⊢
  have HW1 := Mm.hid hW1
  have HB1 := Mm.hid hB1
  have c1 := hW1.at 2 rfl
  have c2 := hW1.at 3 rfl
  have c3 : w1.cell? ⟨p, 5, none⟩ = some (.int .i64 ((s.met : Int) + 1)) := hW1.at 5 rfl
  have n1 := hW1.num.own
  have n2 := hW1.low.own
  simp only [en, el] at c1 c2 n1 n2
  obtain ⟨d1, f1⟩ := n1.cell (Mm.fnc_at s.num hx)
  obtain ⟨d2, f2⟩ := n2.cell (Mm.fnc_at s.low hx)
  have hne : gl ≠ gn := Mm.apart (hT.out.low.tg gl (by rw [el]; rfl)) (hT.out.num.tg gn (by rw [en]; rfl)) (by simp)
  have hne2 : p ≠ gn := Mm.apart hT.out.tp (hT.out.num.tg gn (by rw [en]; rfl)) (by simp)
  have hne3 : p ≠ gl := Mm.apart hT.out.tp (hT.out.low.tg gl (by rw [el]; rfl)) (by simp)
  clear hc5 hf5 hw1 hW1 hB1 n1 n2
  go_region
  obtain ⟨w2, hw2⟩ : ∃ w2, ((w1.setCell ⟨gn, x, none⟩ (.int .i64 ((s.met : Int) + 1))).setCell ⟨gl, x, none⟩ (.int .i64 ((s.met : Int) + 1))).drew = w2 := ⟨_, rfl⟩
  have hW2 : Mm.Wk h ((w1.setCell ⟨gn, x, none⟩ (.int .i64 ((s.met : Int) + 1))).setCell ⟨gl, x, none⟩ (.int .i64 ((s.met : Int) + 1))).drew tag p ns { s with met := s.met + 1, num := Tj.upd s.num x (s.met + 1), low := Tj.upd s.low x (s.met + 1) } z kv := ((HW1.out.setNum en x (s.met + 1)).setLow el x (s.met + 1)).drew
  have hB2 : Below h w ((w1.setCell ⟨gn, x, none⟩ (.int .i64 ((s.met : Int) + 1))).setCell ⟨gl, x, none⟩ (.int .i64 ((s.met : Int) + 1))).drew := ((HB1.out.setCell (hT.out.ge (hT.out.num.tg gn (by rw [en]; rfl))) _).setCell (hT.out.ge (hT.out.low.tg gl (by rw [el]; rfl))) _).drew
  rw [hw2] at hW2 hB2 ⊢
  have HW2 := Mm.hid hW2
  have HB2 := Mm.hid hB2
  clear HW1 HB1 c1 c2 c3 d1 d2 f1 f2 hne hne2 hne3 hw2 hW2 hB2
  have c6 : w2.cell? ⟨p, 6, none⟩ = some z.vp := HW2.out.at 6 rfl
  have hpl := hl.out.1
  have hol := hl.out.2
  have hh2 : h ≤ w2.heap.size := Nat.le_trans hh HB2.out.size
  go_wp2_with (at_builtin; first
    | (refine Mm.appI w2 rfl _ _ rfl h z.vp (x : Int) (Mm.nts s.path) rfl HW2.out.path.own _ rfl (by simp) (by rw [Mm.nts_len]; omega) hh2 ?_
       intro v3 w3 hown3 hg3 hloc3
       obtain ⟨g3, n3, cc3, rfl, hn3, _⟩ := hown3.nonnil (by simp)
       have hW3 := HW2.out.putPath (path := s.path ++ [x]) hg3 (by rw [Mm.nts_app]; exact hown3) hloc3
       have hp3 := HW2.out.grown hg3 HW2.out.path.tg (by simp)
       have hc36 : w3.cell? ⟨p, 6, none⟩ = some z.vp := (World.cell?_of_block (a := ⟨p, 6, none⟩) hp3).trans c6
       have hc37 : w3.cell? ⟨p, 7, none⟩ = some z.vo := (World.cell?_of_block (a := ⟨p, 7, none⟩) hp3).trans (HW2.out.at 7 rfl)
       have hf36 : w3.frozen? ⟨p, 6, none⟩ = false := (World.frozen?_of_block (a := ⟨p, 6, none⟩) hp3).trans (HW2.out.fr 6)
       have hf37 : w3.frozen? ⟨p, 7, none⟩ = false := (World.frozen?_of_block (a := ⟨p, 7, none⟩) hp3).trans (HW2.out.fr 7)
       have HW3 := Mm.hid hW3
       have HB3 := Mm.hid ((HB2.out.trans (HW2.out.grBel hh2 hg3 HW2.out.path.tg)).setCell (p := ⟨p, 6, none⟩) (hT.out.ge hT.out.tp) (.slice (some ⟨g3, 0, none⟩) n3 cc3))
       have hh3 : h ≤ (w3.setCell ⟨p, 6, none⟩ (.slice (some ⟨g3, 0, none⟩) n3 cc3)).heap.size := Nat.le_trans hh HB3.out.size
       clear hW3 hp3 hown3 hg3 hloc3 hn3)
    | (refine Mm.appI _ rfl _ _ rfl h z.vo (x : Int) (Mm.nts s.opn) rfl HW3.out.opn.own _ rfl (by simp) (by rw [Mm.nts_len]; omega) hh3 ?_
       intro v4 w4 hown4 hg4 hloc4
       obtain ⟨g4, n4, cc4, rfl, hn4, _⟩ := hown4.nonnil (by simp)
       have hW4 := HW3.out.putOpn (opn := s.opn ++ [x]) hg4 (by rw [Mm.nts_app]; exact hown4) hloc4
       have hp4 := HW3.out.grown hg4 HW3.out.opn.tg (by simp)
       have hc47 : w4.cell? ⟨p, 7, none⟩ = some z.vo := (World.cell?_of_block (a := ⟨p, 7, none⟩) hp4).trans (HW3.out.at 7 rfl)
       have hf47 : w4.frozen? ⟨p, 7, none⟩ = false := (World.frozen?_of_block (a := ⟨p, 7, none⟩) hp4).trans (HW3.out.fr 7)
       have HW4 := Mm.hid hW4
       have HB4 := Mm.hid ((HB3.out.trans (HW3.out.grBel hh3 hg4 HW3.out.opn.tg)).setCell (p := ⟨p, 7, none⟩) (hT.out.ge hT.out.tp) (.slice (some ⟨g4, 0, none⟩) n4 cc4))
       clear hW4 hp4 hown4 hg4 hloc4 hn4))
  go_end0
  exact ⟨rfl, _, _, HW4.out, rfl, rfl, HB4.out⟩
end Go.Proofs.Ythikdfcndppoaaa
