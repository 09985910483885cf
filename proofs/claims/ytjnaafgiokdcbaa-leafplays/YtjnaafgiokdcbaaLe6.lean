/- Both side by side. -/
import Derived.Test.YtjnaafgiokdcbaaLe5
import Derived.Test.YtjnaafgiokdcbaaLc3
namespace Go.Proofs.Ytjnaafgiokdcbaa
open Go.RowKit
namespace Lf
theorem RemR.det {s s1 s2 : S} {k : ByteArray} {l1 f1 t1 e1 l2 f2 t2 e2 : Nat} (h1 : RemR s k s1 l1 f1 t1 e1) (h2 : RemR s k s2 l2 f2 t2 e2) : s1 = s2 ∧ l1 = l2 ∧ f1 = f2 ∧ t1 = t2 ∧ e1 = e2 := by
  cases h1 with
  | none a1 a2 a3 =>
    cases h2 with
    | none _ _ _ => exact ⟨rfl, rfl, rfl, rfl, rfl⟩
    | ok b1 b2 =>
      obtain ⟨_, e, _⟩ := a1.uniq b1
      rw [e] at a2
      exact absurd (by rw [(a2.uniq b2).2]; rfl) a3
  | ok a1 a2 =>
    cases h2 with
    | none b1 b2 b3 =>
      obtain ⟨_, e, _⟩ := a1.uniq b1
      rw [e] at a2
      exact absurd (by rw [← (a2.uniq b2).2]; rfl) b3
    | ok b1 b2 =>
      obtain ⟨e1, e2, e3⟩ := a1.uniq b1
      subst e1; subst e2; subst e3
      obtain ⟨e4, e5⟩ := a2.uniq b2
      injection e5 with _ e5
      subst e4; subst e5
      exact ⟨rfl, rfl, rfl, rfl, rfl⟩
/-- The program's leaves and the reference's in one world. -/
structure Jt (w0 w : World) (tag : Nat → Option Tg) (p : Nat) (s : S) (N base pr r c : Nat) (kf : Nat → Value) (s2 : S) : Prop where
  q : Lq w0.heap.size w tag p s N
  m : Rm w base pr r c kf s2
  t : ∀ b, Rb pr r kf s2 b → tag b = none
  hb : w0.heap.size ≤ base ∧ base ≤ w.heap.size
  bel : Below w0.heap.size w0 w
variable {w0 w w' : World} {tag tag' : Nat → Option Tg} {p N N' base pr r c : Nat} {s s' s2 s2' : S} {kf : Nat → Value}
theorem Jt.below (H : Jt w0 w tag p s N base pr r c kf s2) (hb : Below w.heap.size w w') : Jt w0 w' tag p s N base pr r c kf s2 :=
  ⟨H.q.below hb, H.m.below hb, H.t, ⟨H.hb.1, Nat.le_trans H.hb.2 hb.size⟩, H.bel.trans (hb.mono H.bel.size)⟩
theorem Jt.prog (H : Jt w0 w tag p s N base pr r c kf s2) (hq : Lq w0.heap.size w' tag' p s' N') (hE : Ev tag tag' w w') : Jt w0 w' tag' p s' N' base pr r c kf s2 :=
  ⟨hq, H.m.keep (fun b hlt hb => hE.block b hlt (H.t b hb)), fun b hb => hE.tags b (hb.lt H.m) (H.t b hb), ⟨H.hb.1, Nat.le_trans H.hb.2 hE.size⟩, H.bel.trans (hE.bel H.bel.size H.q.bot)⟩
theorem Jt.ref (H : Jt w0 w tag p s N base pr r c kf s2) (hO : Out w base pr r kf s2 w' s2') : (∃ r' c' kf', Jt w0 w' tag p s N base pr r' c' kf' s2') ∧ Tc pr r w w' := by
  obtain ⟨r', c', kf', h1, h2, h3⟩ := hO
  refine ⟨⟨r', c', kf', H.q.keep h2.size (fun b l hl => h2.block b ?_ ?_ ?_), h1, fun b hb => (h3 b hb).elim (H.t b) (H.q.top b), ⟨H.hb.1, Nat.le_trans H.hb.2 h2.size⟩, H.bel.trans (h2.bel ?_ ?_ H.bel.size)⟩, h2⟩
  · exact Nat.lt_of_not_le (fun h => by rw [H.q.top b h] at hl; cases hl)
  · rintro rfl
    rw [H.t _ (Or.inl rfl)] at hl; cases hl
  · rintro rfl
    rw [H.t _ (Or.inr (Or.inl rfl))] at hl; cases hl
  · exact Nat.le_trans H.hb.1 H.m.lo
  · exact Nat.le_trans H.hb.1 H.m.row.2
theorem Jt.inc (H : Jt w0 w tag p s N base pr r c kf s2) : Jt w0 w tag p s (N + 1) base pr r c kf s2 :=
  ⟨⟨H.q.1, H.q.2.1, Nat.le_succ_of_le H.q.2.2.1, Nat.le_succ_of_le H.q.2.2.2⟩, H.m, H.t, H.hb, H.bel⟩
theorem Jt.le (H : Jt w0 w tag p s N base pr r c kf s2) (h : N ≤ N') : Jt w0 w tag p s N' base pr r c kf s2 :=
  ⟨⟨H.q.1, H.q.2.1, Nat.le_trans H.q.2.2.1 (by omega), Nat.le_trans H.q.2.2.2 h⟩, H.m, H.t, H.hb, H.bel⟩
/-- Nothing outside the two turns. -/
theorem Jt.setB (H : Jt w0 w tag p s N base pr r c kf s2) {b : Nat} (hb : w0.heap.size ≤ b) (ht : tag b = none) (hr : ¬ Rb pr r kf s2 b) (i : Nat) (u : Value) : Jt w0 (w.setCell ⟨b, i, none⟩ u) tag p s N base pr r c kf s2 := by
  have oth : ∀ g, g ≠ b → (w.setCell ⟨b, i, none⟩ u).heap[g]? = w.heap[g]? := fun g hg => heap_setCell_other _ _ _ _ (by simpa using hg)
  refine ⟨H.q.keep (by simp) (fun g l hg => oth g (fun e => by rw [e, ht] at hg; cases hg)), H.m.keep (fun g _ hg => oth g (fun e => hr (by rw [← e]; exact hg))), H.t, ⟨H.hb.1, by simpa using H.hb.2⟩, ?_⟩
  exact ⟨H.bel.os, H.bel.tape, H.bel.output, by simpa using H.bel.size, fun g hg => (oth g (by omega)).trans (H.bel.block g hg)⟩
theorem keys_m1 {s : S} : ksOf s.pgs (-1) = [] := by
  unfold ksOf
  have : s.pgs.find? (fun P => (P.n : Int) == -1) = none := List.find?_eq_none.2 (fun P _ h => by
    simp at h)
  rw [this]
theorem spanK_len {s : S} (_ : Inv s) (frm tto : ByteArray) : (spanK s frm tto).length ≤ (flat s.pgs).length := by
  unfold spanK
  split
  · exact Nat.zero_le _
  · unfold rngK keysIn flat
    refine Nat.le_trans (List.length_filter_le _ _) ?_
    have h1 : (List.takeWhile (upTo tto) (s.pgs.dropWhile (fun P => !decide (P.n = (leafOf s frm).n)))).Sublist s.pgs := (List.takeWhile_sublist _).trans (List.dropWhile_sublist _)
    generalize List.takeWhile (upTo tto) (s.pgs.dropWhile (fun P => !decide (P.n = (leafOf s frm).n))) = T at h1
    rw [List.length_flatMap, List.length_flatMap]
    generalize s.pgs = l at h1
    induction h1 with
    | slnil => exact Nat.le_refl _
    | cons a _ ih => simp only [List.map_cons, List.sum_cons]; omega
    | cons_cons a _ ih => simp only [List.map_cons, List.sum_cons]; omega
theorem spanL_len {s : S} (_ : Inv s) (frm tto : ByteArray) : (spanL s frm tto).length ≤ s.pgs.length := by
  unfold spanL
  split
  · exact Nat.zero_le _
  · unfold rngL nums
    rw [List.length_map]
    exact ((List.takeWhile_sublist _).trans (List.dropWhile_sublist _)).length_le
theorem flat_cnt {s : S} (hI : Inv s) : (flat s.pgs).length = s.count := by rw [flat_len]; exact hI.cnt.symm
end Lf
end Go.Proofs.Ytjnaafgiokdcbaa
