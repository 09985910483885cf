/- leave's and rising's pieces; Gr: edges laid out in memory. -/
import Derived.Test.YthikdfcndppoaaaWa3
namespace Go.Proofs.Ythikdfcndppoaaa
open Go.RowKit

namespace Mm
/-- Edges laid out in memory, all below h. -/
structure Gr (h : Nat) (w : World) (vN vE : Value) (ns : List Int) (E : Nat → List Nat) (sv : List Value) : Prop where
  N : Own w 0 3 vN (its ns)
  Nb : ∀ g, vN.ownBlock = some g → g < h
  Es : Own w 0 28 vE sv
  Eb : ∀ g, vE.ownBlock = some g → g < h
  el : sv.length = ns.length
  rows : ∀ (i : Nat) (v : Value), sv[i]? = some v → Own w 0 3 v (nts (E i)) ∧ ∀ g, v.ownBlock = some g → g < h
theorem Gr.below {h : Nat} {w w' : World} {vN vE : Value} {ns : List Int} {E : Nat → List Nat} {sv : List Value} (H : Gr h w vN vE ns E sv) (hb : Below h w w') : Gr h w' vN vE ns E sv :=
  ⟨H.N.keep (fun g hg => hb.block g (H.Nb g hg)), H.Nb, H.Es.keep (fun g hg => hb.block g (H.Eb g hg)), H.Eb, H.el, fun i v hv => ⟨(H.rows i v hv).1.keep (fun g hg => hb.block g ((H.rows i v hv).2 g hg)), (H.rows i v hv).2⟩⟩
theorem Gr.drew {h : Nat} {w : World} {vN vE : Value} {ns : List Int} {E : Nat → List Nat} {sv : List Value} (H : Gr h w vN vE ns E sv) : Gr h w.drew vN vE ns E sv := H.below (Below.refl _ _).drew
/-- A node's edges. -/
theorem Gr.ends {h : Nat} {w : World} {vN vE : Value} {ns : List Int} {E : Nat → List Nat} {sv : List Value} (H : Gr h w vN vE ns E sv) {i : Nat} (hi : i < ns.length) : ∃ g c q d, vE = .slice (some ⟨g, 0, none⟩) ns.length c ∧ ns.length ≤ c ∧ w.cell? ⟨g, i, none⟩ = some (.slice q (E i).length d) ∧ (E i).length ≤ d ∧ d ≤ maxLen ∧ (∀ (j t : Nat), (E i)[j]? = some t → ∃ b, q = some ⟨b, 0, none⟩ ∧ w.cell? ⟨b, j, none⟩ = some (.int .i64 (t : Int))) ∧ (q = none → d = 0) := by
  obtain ⟨v, hv⟩ : ∃ v, sv[i]? = some v := ⟨_, List.getElem?_eq_getElem (by rw [H.el]; exact hi)⟩
  obtain ⟨g, c, h1, h2, h3, _, _⟩ := H.Es.at hv
  rw [H.el] at h1 h2
  obtain ⟨q, d, h4, h5, h6, h7, h8⟩ := (H.rows i v hv).1.shape
  rw [nts_len] at h4 h5
  refine ⟨g, c, q, d, h1, h2, by rw [h3, h4], h5, h6, fun j t ht => ?_, fun hq => (h7 hq).2⟩
  obtain ⟨g', c', e1, _, e3, _, _⟩ := (H.rows i v hv).1.at (nts_at ht)
  rw [h4] at e1
  injection e1 with e1
  exact ⟨g', e1, e3⟩
theorem Gr.ends2 {h : Nat} {w : World} {vN vE : Value} {ns : List Int} {E : Nat → List Nat} {sv : List Value} (H : Gr h w vN vE ns E sv) {i : Nat} (hi : i < ns.length) : ∃ g c q d, vE = .slice (some ⟨g, 0, none⟩) ns.length c ∧ ns.length ≤ c ∧ (∀ w', Below h w w' → w'.cell? ⟨g, i, none⟩ = some (.slice q (E i).length d)) ∧ (E i).length ≤ d ∧ (∀ (j t : Nat), (E i)[j]? = some t → ∃ b, q = some ⟨b, 0, none⟩ ∧ ∀ w', Below h w w' → w'.cell? ⟨b, j, none⟩ = some (.int .i64 (t : Int))) := by
  obtain ⟨v, hv⟩ : ∃ v, sv[i]? = some v := ⟨_, List.getElem?_eq_getElem (by rw [H.el]; exact hi)⟩
  obtain ⟨g, c, h1, h2, h3, _, _⟩ := H.Es.at hv
  rw [H.el] at h1 h2
  have hgl : g < h := H.Eb g (by rw [h1]; rfl)
  obtain ⟨q, d, h4, h5, h6, h7, h8⟩ := (H.rows i v hv).1.shape
  rw [nts_len] at h4 h5
  refine ⟨g, c, q, d, h1, h2, fun w' hb => by rw [hb.cell (p := ⟨g, i, none⟩) hgl, h3, h4], h5, fun j t ht => ?_⟩
  obtain ⟨g', c', e1, _, e3, _, _⟩ := (H.rows i v hv).1.at (nts_at ht)
  have hgl2 : g' < h := (H.rows i v hv).2 g' (by rw [e1]; rfl)
  rw [h4] at e1
  injection e1 with e1
  exact ⟨g', e1, fun w' hb => by rw [hb.cell (p := ⟨g', j, none⟩) hgl2, e3]⟩
end Mm

set_option maxRecDepth 100000 in
set_option maxHeartbeats 2000000 in
theorem leave_no (h : Nat) (w : World) (tag : Nat → Option Mm.Lb) (p : Nat) (ns : List Int) (s : Tj.S) (z : Mm.Sl) (kv : List Value) (P : List Nat) (x y : Nat) (hT : Hid (Mm.Wk h w tag p ns s z kv)) (hx : x < ns.length) (hy : y < ns.length) (hp : Hid (s.path = (P ++ [y]) ++ [x])) (hpl : P.length < 100000) (hl : s.low x ≠ s.num x) :
    Calls Try.prog 29 #[.pointer (some ⟨p, 0, none⟩), .int .i64 (x : Int)] w fun e w' => e = .returned (.tuple #[]) ∧
      ∃ tag' z', Mm.Wk h w' tag' p ns (Tj.goBack s (P ++ [y]) x y) z' kv ∧ z'.vN = z.vN ∧ z'.vE = z.vE ∧ Below h w w' := by
  obtain ⟨gn, cn, en, hcn, -, -, -⟩ := hT.out.num.own.at (Mm.fnc_at s.num hx)
  obtain ⟨gl, cl, el, hcl, -, -, -⟩ := hT.out.low.own.at (Mm.fnc_at s.low hx)
  have hpp := hT.out.path.own
  rw [hp.out] at hpp
  obtain ⟨gp, np, cp, ep, hnp, hcp⟩ := hpp.nonnil (by simp [Mm.nts])
  simp [Mm.nts] at hnp
  obtain ⟨m, hm⟩ : ∃ m, m = P.length := ⟨_, rfl⟩
  obtain rfl : np = m + 2 := by omega
  simp only [Mm.fnc_len] at en el hcn hcl
  have HPP := Mm.hid hpp
  have HM := Mm.hid hm
  have hm1 : m < 100000 := by omega
  have hbeq : ((s.low x : Int) == (s.num x : Int)) = false := by simp; omega
  have HL := Mm.hid hl
  have hlen : (Mm.nts (P ++ [y])).length = m + 1 := by simp; omega
  have HP1 : Hid (Mm.Own w h 3 (.slice (some ⟨gp, 0, none⟩) (m + 1) cp) (Mm.nts (P ++ [y]))) := Mm.hid (by
    have h1 := hpp
    rw [ep] at h1
    have h2 := h1.take (k := m + 1) (by simp; omega)
    rw [Mm.nts_app, List.take_left' hlen] at h2
    exact h2)
  clear hnp hpl hpp hm hl hlen
  have c6 := hT.out.at 6 rfl
  have f6 := hT.out.fr 6
  simp only [ep] at c6
  go_enter Try.func29, Try.ntmps29
  go_wp2_with fail
  go_region
  obtain ⟨w1, hw1⟩ : ∃ w1, (w.setCell ⟨p, 6, none⟩ (.slice (some ⟨gp, 0, none⟩) (m + 1) cp)).drew = w1 := ⟨_, rfl⟩
  have hW1 := (hT.out.putPath (path := P ++ [y]) (World.grownBy.refl _ _) HP1.out (Or.inl (by rw [ep]; rfl))).drew
  have hB1 : Below h w (w.setCell ⟨p, 6, none⟩ (.slice (some ⟨gp, 0, none⟩) (m + 1) cp)).drew := (Mm.setBel (hT.out.ge hT.out.tp) _ _).drew
  rw [hw1] at hW1 hB1 ⊢
  obtain ⟨z1, hz1⟩ : ∃ z1, z1 = { z with vp := .slice (some ⟨gp, 0, none⟩) (m + 1) cp } := ⟨_, rfl⟩
  obtain ⟨en1, el1, ep1, eN1, eE1⟩ : z1.vn = z.vn ∧ z1.vl = z.vl ∧ z1.vp = .slice (some ⟨gp, 0, none⟩) (m + 1) cp ∧ z1.vN = z.vN ∧ z1.vE = z.vE := by subst hz1; exact ⟨rfl, rfl, rfl, rfl, rfl⟩
  rw [← hz1] at hW1
  have c2 := hW1.at 2 rfl
  have c3 := hW1.at 3 rfl
  have c6' := hW1.at 6 rfl
  have n1 := hW1.num.own
  have n2 := hW1.low.own
  have n3 := hW1.path.own
  simp only [en1, el1, ep1, en, el] at c2 c3 c6' n1 n2 n3
  have d1 := (n1.cell (Mm.fnc_at s.num hx)).1
  have d2 := (n2.cell (Mm.fnc_at s.low hx)).1
  obtain ⟨d3, f3⟩ := n2.cell (Mm.fnc_at s.low hy)
  have d4 := (n3.cell (i := m) (u := .int .i64 (y : Int)) (Mm.nts_at (by rw [HM.out]; simp))).1
  have HW1 := Mm.hid hW1
  have HB1 := Mm.hid hB1
  clear c6 f6 hw1 hW1 hB1 n1 n2 n3 hz1
  go_wp2_with fail
  go_region
  go_wp2_with fail
  go_region
  go_wp2_with fail
  go_region
  have hmin : min (s.low y : Int) (s.low x : Int) = ((min (s.low y) (s.low x) : Nat) : Int) := by omega
  rw [hmin]
  have HW2 := Mm.hid ((HW1.out.setLow (el1.trans el) y (min (s.low y) (s.low x))).drew.drew.drew)
  have HB2 := Mm.hid ((HB1.out.setCell (p := ⟨gl, y, none⟩) (hT.out.ge (hT.out.low.tg gl (by rw [el]; rfl))) (.int .i64 ((min (s.low y) (s.low x) : Nat) : Int))).drew.drew.drew)
  go_wp2
  go_end0
  exact ⟨rfl, _, z1, HW2.out, eN1, eE1, HB2.out⟩
end Go.Proofs.Ythikdfcndppoaaa
