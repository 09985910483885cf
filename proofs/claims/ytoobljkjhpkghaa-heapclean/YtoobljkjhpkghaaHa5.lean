/- version, Delete. -/
import Derived.Test.YtoobljkjhpkghaaHa4
namespace Go.Proofs.Ytoobljkjhpkghaa
open Go.RowKit

namespace Hp
def fndD (l : List Ver) (t : Int) : Ver := (fnd l t).getD v0
theorem pos_fnd {l : List Ver} {t : Int} {v : Ver} (hu : l.Pairwise (fun a b => a.tid < b.tid)) (h : fnd l t = some v) : l[pos l t]? = some v := by
  obtain ⟨hm, ht⟩ := fnd_mem h
  obtain ⟨j, hj⟩ := List.getElem?_of_mem hm
  have hl := (List.getElem?_eq_some_iff.1 hj).1
  rw [pos_at l t j (by omega) (fun i u hi hu2 => ?_) (fun i u hi hu2 => ?_)]
  · exact hj
  · obtain ⟨h1, h2⟩ := List.getElem?_eq_some_iff.1 hu2
    obtain ⟨h3, h4⟩ := List.getElem?_eq_some_iff.1 hj
    have := List.pairwise_iff_getElem.1 hu i j h1 h3 hi
    rw [h2, h4] at this
    omega
  · have := mono hu hi hj hu2
    omega
/-- Who ends a version of that number. -/
def endV (t x : Int) (v : Ver) : Ver := if (v.tid : Int) = t then { v with xmax := x } else v
theorem endV_tid (t x : Int) (v : Ver) : (endV t x v).tid = v.tid := by unfold endV; split <;> rfl
theorem endV_xs (t x : Int) (v : Ver) : (endV t x v).xs = v.xs ∧ (endV t x v).p = v.p ∧ (endV t x v).c = v.c ∧ (endV t x v).xmin = v.xmin := by unfold endV; split <;> exact ⟨rfl, rfl, rfl, rfl⟩
theorem endV_rv (t x : Int) (v : Ver) : (endV t x v).rv = v.rv := by unfold endV; split <;> rfl
def delE (r : R) (x t : Int) : Nat := if x < 1 then 1 else if (fnd r.vs t).isSome then 0 else 60
def delS (r : R) (x t : Int) : R := if x < 1 then r else ⟨r.vs.map (endV t x), r.nx⟩
theorem end_none {l : List Ver} {t x : Int} (h : fnd l t = none) : l.map (endV t x) = l := by
  unfold fnd at h
  rw [List.find?_eq_none] at h
  conv => rhs; rw [← List.map_id l]
  refine List.map_congr_left (fun v hv => ?_)
  have := h v hv
  unfold endV
  rw [if_neg (by simpa using this)]
  rfl
theorem end_some {l : List Ver} {t x : Int} {v : Ver} (hu : l.Pairwise (fun a b => a.tid < b.tid)) (h : fnd l t = some v) : l.map (endV t x) = l.set (pos l t) { v with xmax := x } := by
  have hp := pos_fnd hu h
  have ht := (fnd_mem h).2
  apply List.ext_getElem?
  intro i
  rw [List.getElem?_map, List.getElem?_set]
  by_cases e : pos l t = i
  · subst e
    rw [if_pos rfl, if_pos (List.getElem?_eq_some_iff.1 hp).1, hp]
    show some (endV t x v) = _
    unfold endV
    rw [if_pos ht]
  · rw [if_neg e]
    cases hi : l[i]? with
    | none => rfl
    | some u =>
      show some (endV t x u) = _
      unfold endV
      rw [if_neg]
      intro hut
      apply e
      rcases Nat.lt_trichotomy (pos l t) i with c | c | c
      · obtain ⟨h1, h2⟩ := List.getElem?_eq_some_iff.1 hp
        obtain ⟨h3, h4⟩ := List.getElem?_eq_some_iff.1 hi
        have := List.pairwise_iff_getElem.1 hu _ i h1 h3 c
        rw [h2, h4] at this; omega
      · exact c
      · obtain ⟨h1, h2⟩ := List.getElem?_eq_some_iff.1 hp
        obtain ⟨h3, h4⟩ := List.getElem?_eq_some_iff.1 hi
        have := List.pairwise_iff_getElem.1 hu i _ h3 h1 c
        rw [h2, h4] at this; omega
theorem Inv.delS {r : R} (h : Inv r) (x t : Int) : Inv (delS r x t) := by
  unfold Hp.delS
  split
  · exact h
  · refine ⟨?_, fun v hv => ?_, by simpa using h.len, h.nx⟩
    · show (r.vs.map (endV t x)).Pairwise _
      rw [List.pairwise_map]
      exact h.up.imp (fun hab => by rw [endV_tid, endV_tid]; exact hab)
    · have hv' : v ∈ r.vs.map (endV t x) := hv
      obtain ⟨u, hu, rfl⟩ := List.mem_map.1 hv'
      rw [endV_tid]; exact h.lt u hu
/-- A cell of the slice of versions stored: it is Xmax. -/
theorem Rl.setMax {w : World} {base b : Nat} {r : R} {c g : Nat} (h : Rl w base b r (.slice (some ⟨g, 0, none⟩) r.vs.length c)) (hI : Inv r) {t x : Int} {v : Ver} (hf : fnd r.vs t = some v) :
    Rl (w.setCell ⟨g, pos r.vs t * 4 + 2, none⟩ (.int .i64 x)) base b ⟨r.vs.map (endV t x), r.nx⟩ (.slice (some ⟨g, 0, none⟩) r.vs.length c) := by
  have hgb : g ≠ b := fun e => h.ne (by rw [← e]; rfl)
  have ot : ∀ k, k ≠ g → (w.setCell ⟨g, pos r.vs t * 4 + 2, none⟩ (.int .i64 x)).heap[k]? = w.heap[k]? := fun k hk => heap_setCell_other w ⟨g, pos r.vs t * 4 + 2, none⟩ k _ hk
  refine ⟨(ot b (fun e => hgb e.symm)).trans h.blk, h.lo, ?_, h.ne, fun u hu => ?_, fun u hu k hk => ?_, fun u hu => ?_⟩
  · show World.ownsRow _ base _ 4 _ (r.vs.map (endV t x)).length (cellsR (r.vs.map (endV t x)))
    rw [List.length_map, end_some hI.up hf, cellsR_set _ _ _ _ (pos_fnd hI.up hf)]
    obtain ⟨h0, ⟨h1, _⟩ | ⟨g', cap, cur, e1, e2, e3, e4, e5, e6, e7⟩⟩ := h.own
    · cases h1
    · cases e1
      refine ⟨by rw [List.length_set]; exact h0, Or.inr ⟨g, c, cur.setIfInBounds (pos r.vs t * 4 + 2) (.int .i64 x), rfl, e2, heap_setCell_same w g _ cur _ _ e3, e4, e5, by simpa using e6, ?_⟩⟩
      rw [Array.toList_setIfInBounds, List.take_set, e7]
  · obtain ⟨u', hu', rfl⟩ := List.mem_map.1 hu
    rw [endV_rv, (endV_xs t x u').1]
    exact ownKeep (h.rows u' hu') (fun k hk => ot k (fun e => (h.sep u' hu' k hk).2 (by rw [e]; rfl)))
  · obtain ⟨u', hu', rfl⟩ := List.mem_map.1 hu
    rw [endV_rv] at hk
    exact h.sep u' hu' k hk
  · obtain ⟨u', hu', rfl⟩ := List.mem_map.1 hu
    rw [(endV_xs t x u').1]; exact h.small u' hu'
theorem box4 {W : World} {q : Nat} {a b c d : Value} {t : TypeId} (h : W.heap[q]? = some (.cells #[a, b, c, d] t (0, 0))) (x0 x1 x2 x3 : Value) : ((((W.setCell ⟨q, 0, none⟩ x0).setCell ⟨q, 1, none⟩ x1).setCell ⟨q, 2, none⟩ x2).setCell ⟨q, 3, none⟩ x3).heap[q]? = some (.cells #[x0, x1, x2, x3] t (0, 0)) := by
  simp [World.setCell, Array.getElem?_modify, h]
theorem bel4 {base q : Nat} {w W : World} (h : Below base w W) (hq : base ≤ q) (x0 x1 x2 x3 : Value) : Below base w ((((W.setCell ⟨q, 0, none⟩ x0).setCell ⟨q, 1, none⟩ x1).setCell ⟨q, 2, none⟩ x2).setCell ⟨q, 3, none⟩ x3) := (((h.setCell hq _).setCell hq _).setCell hq _).setCell hq _
end Hp

set_option maxRecDepth 100000 in
set_option maxHeartbeats 2000000 in
theorem version_any (w : World) (base : Nat) (v : Value) (r : Hp.R) (t : Int) (hR : Hid (Hp.Rv w base v r)) (hI : Hid (Hp.Inv r)) :
    Calls Try.prog 59 #[v, .int .i64 t] w fun e w' => e = .returned (.tuple #[(Hp.fndD r.vs t).ag, .bool (Hp.fnd r.vs t).isSome]) ∧ Below w.heap.size w w' := by
  cases hf : Hp.fnd r.vs t with
  | none =>
    rw [show Hp.fndD r.vs t = Hp.v0 from by unfold Hp.fndD; rw [hf]; rfl]
    have HF := Vl.hid hf
    clear hf
    go_enter Try.func59, Try.ntmps59
    go_wp2_with fail
    obtain ⟨W0, hW0⟩ : ∃ W0, w.alloc (.cells #[.int .i64 0, .int .i64 0, .int .i64 0, .slice none 0 0] 100) = W0 := ⟨_, rfl⟩
    have HB0 : Hid (Below w.heap.size w W0) := Vl.hid (hW0 ▸ (Below.refl _ w).alloc (Nat.le_refl _) _)
    have HX : Hid (W0.heap[w.heap.size]? = some (.cells #[.int .i64 0, .int .i64 0, .int .i64 0, .slice none 0 0] 100)) := Vl.hid (hW0 ▸ Mm.newAt w _ rfl)
    obtain ⟨q, hq⟩ : ∃ q, q = w.heap.size := ⟨_, rfl⟩
    rw [hW0]
    rw [← hq] at HX ⊢
    have HQ := Vl.hid hq
    clear hW0 hq
    refine (place_any W0 base v r t (Vl.hid (hR.out.below HB0.out)) hI).mono ?_
    rintro e w2 ⟨rfl, hb2⟩
    have hx2 := (hb2.block q (Mm.heapLt HX.out)).trans HX.out
    have k0 : w2.cell? ⟨q, 0, none⟩ = some (.int .i64 0) := Mm.cellOf hx2 rfl
    have k1 : w2.cell? ⟨q, 1, none⟩ = some (.int .i64 0) := Mm.cellOf hx2 rfl
    have k2 : w2.cell? ⟨q, 2, none⟩ = some (.int .i64 0) := Mm.cellOf hx2 rfl
    have k3 : w2.cell? ⟨q, 3, none⟩ = some (.slice none 0 0) := Mm.cellOf hx2 rfl
    have kf : ∀ i, w2.frozen? ⟨q, i, none⟩ = false := fun i => by simp [World.frozen?, hx2]
    have HB2 := Vl.hid (HB0.out.trans (hb2.mono HB0.out.size))
    have hq2 := Mm.heapLt hx2
    have HX2 := Vl.hid hx2
    clear hx2
    clear hb2
    rw [HF.out]
    go_wp2_with fail
    obtain ⟨Wz, hWz⟩ : ∃ Wz, ((((w2.setCell ⟨q, 0, none⟩ (.int .i64 0)).setCell ⟨q, 1, none⟩ (.int .i64 0)).setCell ⟨q, 2, none⟩ (.int .i64 0)).setCell ⟨q, 3, none⟩ (.slice none 0 0)) = Wz := ⟨_, rfl⟩
    have hb := Hp.box4 HX2.out (.int .i64 0) (.int .i64 0) (.int .i64 0) (.slice none 0 0)
    have hB := Hp.bel4 HB2.out (Nat.le_of_eq HQ.out.symm) (.int .i64 0) (.int .i64 0) (.int .i64 0) (.slice none 0 0)
    rw [hWz] at hb hB ⊢
    have e0 : Wz.cell? ⟨q, 0, none⟩ = some (.int .i64 0) := Mm.cellOf hb rfl
    have e1 : Wz.cell? ⟨q, 1, none⟩ = some (.int .i64 0) := Mm.cellOf hb rfl
    have e2 : Wz.cell? ⟨q, 2, none⟩ = some (.int .i64 0) := Mm.cellOf hb rfl
    have e3 : Wz.cell? ⟨q, 3, none⟩ = some (.slice none 0 0) := Mm.cellOf hb rfl
    exact bodyPost_ret (v := .tuple #[.agg #[.int .i64 0, .int .i64 0, .int .i64 0, .slice none 0 0], .bool false]) (by simp [results, Try.results59, go_sem, e0, e1, e2, e3]) rfl ⟨rfl, hB⟩
  | some u =>
    rcases hR.out with ⟨b, rfl, hn⟩ | ⟨rfl, rfl⟩
    · rw [show Hp.fndD r.vs t = u from by unfold Hp.fndD; rw [hf]; rfl]
      have HF := Vl.hid hf
      have HN := Vl.hid hn
      clear hf hn
      go_enter Try.func59, Try.ntmps59
      go_wp2_with fail
      obtain ⟨W0, hW0⟩ : ∃ W0, w.alloc (.cells #[.int .i64 0, .int .i64 0, .int .i64 0, .slice none 0 0] 100) = W0 := ⟨_, rfl⟩
      have HB0 : Hid (Below w.heap.size w W0) := Vl.hid (hW0 ▸ (Below.refl _ w).alloc (Nat.le_refl _) _)
      have HX : Hid (W0.heap[w.heap.size]? = some (.cells #[.int .i64 0, .int .i64 0, .int .i64 0, .slice none 0 0] 100)) := Vl.hid (hW0 ▸ Mm.newAt w _ rfl)
      obtain ⟨q, hq⟩ : ∃ q, q = w.heap.size := ⟨_, rfl⟩
      rw [hW0]
      rw [← hq] at HX ⊢
      have HQ := Vl.hid hq
      clear hW0 hq
      refine (place_any W0 base _ r t (Vl.hid (hR.out.below HB0.out)) hI).mono ?_
      rintro e w2 ⟨rfl, hb2⟩
      obtain ⟨sv, hl⟩ := (HN.out.below HB0.out).below hb2
      have hx2 := (hb2.block q (Mm.heapLt HX.out)).trans HX.out
      have k0 : w2.cell? ⟨q, 0, none⟩ = some (.int .i64 0) := Mm.cellOf hx2 rfl
      have k1 : w2.cell? ⟨q, 1, none⟩ = some (.int .i64 0) := Mm.cellOf hx2 rfl
      have k2 : w2.cell? ⟨q, 2, none⟩ = some (.int .i64 0) := Mm.cellOf hx2 rfl
      have k3 : w2.cell? ⟨q, 3, none⟩ = some (.slice none 0 0) := Mm.cellOf hx2 rfl
      have kf : ∀ i, w2.frozen? ⟨q, i, none⟩ = false := fun i => by simp [World.frozen?, hx2]
      have HB2 := Vl.hid (HB0.out.trans (hb2.mono HB0.out.size))
      have hq2 := Mm.heapLt hx2
      have HX2 := Vl.hid hx2
      clear hx2
      have hp := Hp.pos_fnd hI.out.up HF.out
      obtain ⟨p, c, rfl, hc, hlies⟩ := Vl.lies_own hl.own
      obtain ⟨g, o, rfl, hg, d0, d1, d2, d3⟩ := Hp.liesAt hlies hp
      have c0 := hl.c0
      have hlt := Mm.heapLt hl.blk
      have hpl := (List.getElem?_eq_some_iff.1 hp).1
      obtain ⟨L, hL⟩ : ∃ L, L = r.vs.length := ⟨_, rfl⟩
      obtain ⟨k, hk⟩ : ∃ k, k = Hp.pos r.vs t := ⟨_, rfl⟩
      rw [← hL] at c0 hpl
      rw [← hk] at d0 d1 d2 d3 hpl ⊢
      have g1 : (0 : Int) ≤ (k : Int) := by omega
      have g2 : (k : Int) < (L : Int) := by omega
      rw [HF.out]
      clear hb2 hl hp hlies hc hL hk
      go_wp2_with fail
      obtain ⟨Wz, hWz⟩ : ∃ Wz, ((((w2.setCell ⟨q, 0, none⟩ (.int .i64 (u.tid : Int))).setCell ⟨q, 1, none⟩ (.int .i64 u.xmin)).setCell ⟨q, 2, none⟩ (.int .i64 u.xmax)).setCell ⟨q, 3, none⟩ (.slice u.p u.xs.length u.c)) = Wz := ⟨_, rfl⟩
      have hb := Hp.box4 HX2.out (.int .i64 (u.tid : Int)) (.int .i64 u.xmin) (.int .i64 u.xmax) (.slice u.p u.xs.length u.c)
      have hB := Hp.bel4 HB2.out (Nat.le_of_eq HQ.out.symm) (.int .i64 (u.tid : Int)) (.int .i64 u.xmin) (.int .i64 u.xmax) (.slice u.p u.xs.length u.c)
      rw [hWz] at hb hB ⊢
      have e0 : Wz.cell? ⟨q, 0, none⟩ = some (.int .i64 (u.tid : Int)) := Mm.cellOf hb rfl
      have e1 : Wz.cell? ⟨q, 1, none⟩ = some (.int .i64 u.xmin) := Mm.cellOf hb rfl
      have e2 : Wz.cell? ⟨q, 2, none⟩ = some (.int .i64 u.xmax) := Mm.cellOf hb rfl
      have e3 : Wz.cell? ⟨q, 3, none⟩ = some (.slice u.p u.xs.length u.c) := Mm.cellOf hb rfl
      exact bodyPost_ret (v := .tuple #[.agg #[.int .i64 (u.tid : Int), .int .i64 u.xmin, .int .i64 u.xmax, .slice u.p u.xs.length u.c], .bool true]) (by simp [results, Try.results59, go_sem, e0, e1, e2, e3]) rfl ⟨rfl, hB⟩
    · simp [Hp.r0, Hp.fnd] at hf

set_option maxRecDepth 100000 in
set_option maxHeartbeats 2000000 in
theorem delete_any (w : World) (base b : Nat) (r : Hp.R) (x t : Int) (hR : Hid (Hp.Rn w base b r)) (hI : Hid (Hp.Inv r)) :
    Calls Try.prog 16 #[.pointer (some ⟨b, 0, none⟩), .int .i64 x, .int .i64 t] w fun e w' => e = .returned (.int .i64 (Hp.delE r x t : Int)) ∧ Hp.Rn w' base b (Hp.delS r x t) ∧ Below base w w' ∧ w.heap.size ≤ w'.heap.size := by
  have hlb := hR.out.lt
  by_cases g1 : x < 1
  · rw [show Hp.delE r x t = 1 from if_pos g1, show Hp.delS r x t = r from if_pos g1]
    go_enter Try.func16, Try.ntmps16
    go_wp2_with fail
    go_ret
    exact ⟨rfl, hR.out, Below.refl _ _, Nat.le_refl _⟩
  · cases hf : Hp.fnd r.vs t with
    | none =>
      rw [show Hp.delE r x t = 60 from by unfold Hp.delE; rw [if_neg g1, hf]; rfl, show Hp.delS r x t = r from by unfold Hp.delS; rw [if_neg g1, Hp.end_none hf]]
      have HF := Vl.hid hf
      clear hf
      go_enter Try.func16, Try.ntmps16
      go_wp2_with fail
      refine (place_any w base _ r t (Vl.hid (Or.inl ⟨b, rfl, hR.out⟩)) hI).mono ?_
      rintro e w2 ⟨rfl, hb2⟩
      have HB2 := Vl.hid hb2
      clear hb2
      rw [HF.out]
      go_wp2_with fail
      go_ret
      exact ⟨rfl, hR.out.below HB2.out, HB2.out.mono (by omega), HB2.out.size⟩
    | some u =>
      rw [show Hp.delE r x t = 0 from by unfold Hp.delE; rw [if_neg g1, hf]; rfl, show Hp.delS r x t = ⟨r.vs.map (Hp.endV t x), r.nx⟩ from by unfold Hp.delS; rw [if_neg g1]]
      have HF := Vl.hid hf
      clear hf
      go_enter Try.func16, Try.ntmps16
      go_wp2_with fail
      refine (place_any w base _ r t (Vl.hid (Or.inl ⟨b, rfl, hR.out⟩)) hI).mono ?_
      rintro e w2 ⟨rfl, hb2⟩
      obtain ⟨sv, hl⟩ := hR.out.below hb2
      have HB2 := Vl.hid hb2
      have hp := Hp.pos_fnd hI.out.up HF.out
      have hpl := (List.getElem?_eq_some_iff.1 hp).1
      obtain ⟨p, c, rfl, hc, -⟩ := Vl.lies_own hl.own
      obtain ⟨g, rfl⟩ := Vl.ownNonnil hl.own (by omega)
      obtain ⟨d0, d1, d2, d3⟩ := Vl.ownCell hl.own (Hp.cellsR_at _ _ _ hp).2.2.1
      have HR2 := Vl.hid (hl.setMax hI.out HF.out (x := x))
      have c0 := hl.c0
      have hlt := Mm.heapLt hl.blk
      obtain ⟨L, hL⟩ : ∃ L, L = r.vs.length := ⟨_, rfl⟩
      obtain ⟨k, hk⟩ : ∃ k, k = Hp.pos r.vs t := ⟨_, rfl⟩
      rw [← hL] at c0 hpl
      rw [← hk] at d0 d1 hpl HR2 ⊢
      have g3 : (0 : Int) ≤ (k : Int) := by omega
      have g4 : (k : Int) < (L : Int) := by omega
      rw [HF.out]
      have HLO := Vl.hid (And.intro d2 d3)
      clear hb2 hl hp hc hL hk d2 d3
      go_wp2_with fail
      go_ret
      exact ⟨rfl, ⟨_, HR2.out⟩, (HB2.out.mono (by omega)).setCell HLO.out.2 _, by simpa using HB2.out.size⟩
end Go.Proofs.Ytoobljkjhpkghaa
