/- leave, where a knot is closed; from walked. -/
import Derived.Test.YthikdfcndppoaaaWa6
namespace Go.Proofs.Ythikdfcndppoaaa
open Go.RowKit

set_option maxRecDepth 100000 in
set_option maxHeartbeats 2000000 in
theorem leave_yes (h : Nat) (w : World) (tag : Nat → Option Mm.Lb) (p : Nat) (ns : List Int) (E : Nat → List Nat) (sv : List Value) (s : Tj.S) (z : Mm.Sl) (kv : List Value) (P pre rest : List Nat) (x : Nat) (hT : Hid (Mm.Wk h w tag p ns s z kv)) (hG : Hid (Mm.Gr h w z.vN z.vE ns E sv)) (hx : x < ns.length) (hp : Hid (s.path = P ++ [x])) (hpl : P.length < 100000) (hl : s.low x = s.num x)
    (ho : Hid (s.opn = pre ++ x :: rest)) (hnd : Hid (x ∉ rest)) (hlt : Hid (∀ y ∈ x :: rest, y < ns.length)) (hN : Hid (pre.length < 100000 ∧ rest.length < 90000 ∧ (E x).length < 100000 ∧ s.done.length < 100000)) (hh : h ≤ w.heap.size) :
    Calls Try.prog 29 #[.pointer (some ⟨p, 0, none⟩), .int .i64 (x : Int)] w fun e w' => e = .returned (.tuple #[]) ∧
      ∃ tag' z' kv', Mm.Wk h w' tag' p ns (Tj.close s P pre (x :: rest) (decide (1 < (x :: rest).length) || (E x).contains x)) z' kv' ∧ z'.vN = z.vN ∧ z'.vE = z.vE ∧ Below h w w' := by
  obtain ⟨gn, cn, en, hcn, -, -, -⟩ := hT.out.num.own.at (Mm.fnc_at s.num hx)
  obtain ⟨gl, cl, el, hcl, -, -, -⟩ := hT.out.low.own.at (Mm.fnc_at s.low hx)
  have hpp := hT.out.path.own
  rw [hp.out] at hpp
  obtain ⟨gp, np, cp, ep, hnp, hcp⟩ := hpp.nonnil (by simp [Mm.nts])
  simp [Mm.nts] at hnp
  obtain ⟨m, hm⟩ : ∃ m, m = P.length := ⟨_, rfl⟩
  obtain rfl : np = m + 1 := by omega
  simp only [Mm.fnc_len] at en el hcn hcl
  have hm1 : m < 100000 := by omega
  have hbeq : ((s.low x : Int) == (s.num x : Int)) = true := by simp; omega
  have HP1 : Hid (Mm.Own w h 3 (.slice (some ⟨gp, 0, none⟩) m cp) (Mm.nts P)) := Mm.hid (by
    have h1 := hpp
    rw [ep] at h1
    have h2 := h1.take (k := m) (by simp; omega)
    rw [Mm.nts_app, List.take_left' (by rw [Mm.nts_len]; exact hm.symm)] at h2
    exact h2)
  clear hnp hpl hpp hm hl
  have c6 := hT.out.at 6 rfl
  have f6 := hT.out.fr 6
  simp only [ep] at c6
  go_enter Try.func29, Try.ntmps29
  go_wp2_with fail
  go_region
  obtain ⟨w1, hw1⟩ : ∃ w1, (w.setCell ⟨p, 6, none⟩ (.slice (some ⟨gp, 0, none⟩) m cp)).drew = w1 := ⟨_, rfl⟩
  have hW1 := (hT.out.putPath (path := P) (World.grownBy.refl _ _) HP1.out (Or.inl (by rw [ep]; rfl))).drew
  have hB1 : Below h w (w.setCell ⟨p, 6, none⟩ (.slice (some ⟨gp, 0, none⟩) m cp)).drew := (Mm.setBel (hT.out.ge hT.out.tp) _ _).drew
  rw [hw1] at hW1 hB1 ⊢
  obtain ⟨z1, hz1⟩ : ∃ z1, z1 = { z with vp := .slice (some ⟨gp, 0, none⟩) m cp } := ⟨_, rfl⟩
  obtain ⟨en1, el1, eN1, eE1⟩ : z1.vn = z.vn ∧ z1.vl = z.vl ∧ z1.vN = z.vN ∧ z1.vE = z.vE := by subst hz1; exact ⟨rfl, rfl, rfl, rfl⟩
  rw [← hz1] at hW1
  have c2 := hW1.at 2 rfl
  have c3 := hW1.at 3 rfl
  have n1 := hW1.num.own
  have n2 := hW1.low.own
  simp only [en1, el1, en, el] at c2 c3 n1 n2
  have d1 := (n1.cell (Mm.fnc_at s.num hx)).1
  have d2 := (n2.cell (Mm.fnc_at s.low hx)).1
  have HW1 := Mm.hid hW1
  have HB1 := Mm.hid hB1
  clear c6 f6 hw1 hW1 hB1 n1 n2 hz1
  go_wp2_with fail
  go_region
  have HGd : Hid (Mm.Gr h w1.drew z1.vN z1.vE ns E sv) := Mm.hid (by rw [eN1, eE1]; exact (hG.out.below HB1.out).drew)
  have HC := Mm.hid (close_any h w1.drew _ p ns E sv { s with path := P } z1 kv pre rest x (Mm.hid HW1.out.drew) HGd hx ho hnd hlt hN (Nat.le_trans hh HB1.out.size) _ (Mm.hid rfl))
  go_wp2_with (go_at_call 35; refine HC.out.mono ?_; rintro e w2 ⟨rfl, tag2, z2, kv2, hW2, e1, e2, hb2⟩; have HF := Mm.hid (And.intro hW2 (And.intro e1 (And.intro e2 hb2))); clear hW2 e1 e2 hb2)
  refine bodyPost_ret (results_none rfl _ _ _) rfl ?_
  exact ⟨rfl, _, z2, kv2, HF.out.1, HF.out.2.1.trans eN1, HF.out.2.2.1.trans eE1, HB1.out.drew.trans (HF.out.2.2.2)⟩
end Go.Proofs.Ythikdfcndppoaaa
