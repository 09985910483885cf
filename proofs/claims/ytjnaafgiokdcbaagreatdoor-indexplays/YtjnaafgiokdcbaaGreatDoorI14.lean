/- The reference's Find, Range, Add, Drop. -/
import Derived.Test.YtjnaafgiokdcbaaGreatDoorI13
import Derived.Test.YtjnaafgiokdcbaaGreatDoorI4
namespace Go.Proofs.YtjnaafgiokdcbaaGreatDoor
open Go.RowKit
attribute [local go_sem] Fl.run_store_float
attribute [local go_sem ↓] Go.wp_at_zero Go.wp_at_succ

namespace Ix
open Vl Ky
theorem Tw.fin {w w2 w3 : World} {v1 v2 : Value} {a b : List Nat} {g : Nat} (h : Tw w2 w3 v1 v2 a b) (hb : Below w.heap.size w w2) (hg : w.heap.size ≤ g ∧ g < w2.heap.size) (x y : Value) : Tw w ((w3.setCell ⟨g, 0, none⟩ x).setCell ⟨g, 1, none⟩ y) v1 v2 a b :=
  ⟨(h.o1.keep (fun k hk => set2_oth _ _ (fun e => by have := (h.o1.lt hk).2; omega))).base hb.size, (h.o2.keep (fun k hk => set2_oth _ _ (fun e => by have := (h.o2.lt hk).2; omega))).base hb.size, (hb.trans (h.bel.mono hb.size)).trans (set2_bel _ _ hg.1)⟩
theorem span_none {s : Lf.S} {v x : V} (hv : GoodV v) (hx : GoodV x) (h : 0 ≤ cmpV v x) : Lf.spanK s (entB v 0) (entB x 0) = [] ∧ Lf.spanL s (entB v 0) (entB x 0) = [] := by
  have h1 : Lf.lt (entB v 0) (entB x 0) = false := by
    rw [show (0 : Int) = ((0 : Nat) : Int) from rfl, entB_good hv (by omega), entB_good hx (by omega), lt_least ⟨hv, Nat.zero_lt_succ _⟩ hx]
    exact decide_eq_false (by show ¬ cmpV v x < 0; omega)
  have h2 : entB x 0 ≠ ⟨#[]⟩ := by
    rw [show (0 : Int) = ((0 : Nat) : Int) from rfl, entB_good hx (by omega)]
    exact ent_ne _
  unfold Lf.spanK Lf.spanL
  rw [if_pos ⟨h2, h1⟩, if_pos ⟨h2, h1⟩]
  exact ⟨rfl, rfl⟩
theorem out_set {w w1 w2 : World} {base pr r c r' : Nat} {kf kf' : Nat → Value} {s s' : Lf.S} {gr : Nat} (ht : Lf.Tc pr r w1 w2) (hb : Below w.heap.size w w1) (hm : Lf.Rm w2 base pr r' c kf' s') (hr : ∀ b, Lf.Rb pr r' kf' s' b → Lf.Rb pr r kf s b ∨ w1.heap.size ≤ b) (hg : w.heap.size ≤ gr ∧ gr < w1.heap.size) (hl : ∀ b, Lf.Rb pr r kf s b → b < w.heap.size) (y0 y1 y2 y3 : Value) :
    Lf.Out w base pr r kf s ((((w2.setCell ⟨gr, 0, none⟩ y0).setCell ⟨gr, 1, none⟩ y1).setCell ⟨gr, 2, none⟩ y2).setCell ⟨gr, 3, none⟩ y3) s' := by
  have hne : ∀ b, Lf.Rb pr r' kf' s' b → b ≠ gr := fun b hb e => by
    rcases hr b hb with h | h
    · have := hl b h; omega
    · omega
  have oth : ∀ g, g ≠ gr → ((((w2.setCell ⟨gr, 0, none⟩ y0).setCell ⟨gr, 1, none⟩ y1).setCell ⟨gr, 2, none⟩ y2).setCell ⟨gr, 3, none⟩ y3).heap[g]? = w2.heap[g]? := fun g hg => by
    rw [Below.heap_setCell _ _ _ g hg, Below.heap_setCell _ _ _ g hg, Below.heap_setCell _ _ _ g hg, Below.heap_setCell _ _ _ g hg]
  have hT := Lf.Tc.below hb ht
  refine ⟨r', c, kf', hm.keep (fun b _ hb => oth b (hne b hb)), (((hT.set (Or.inr (Or.inr hg.1)) _ _).set (Or.inr (Or.inr hg.1)) _ _).set (Or.inr (Or.inr hg.1)) _ _).set (Or.inr (Or.inr hg.1)) _ _, fun b hb' => (hr b hb').imp id (fun h => Nat.le_trans hb.size h)⟩
end Ix

variable {w : World} {qb pr r c : Nat} {kf : Nat → Value} {s : Lf.S} {base : Nat}

set_option maxRecDepth 100000 in
set_option maxHeartbeats 4000000 in
theorem refFindI_any (H : Hid (Ix.Rx w qb pr r c kf s)) (hz : Hid (Ix.Sz s)) (v : Vl.V) (hM : Ky.Mx w) (hv : Ky.In v) :
    Calls Tryz.prog 16 #[.pointer (some ⟨qb, 0, none⟩), .agg #[.int .i64 v.k, .int .i64 v.n, .float .f64 v.f, .string v.s]] w fun e w' => ∃ p1 n1 c1 p2 n2 c2, e = .returned (.agg #[.slice p1 n1 c1, .slice p2 n2 c2]) ∧ Ix.Tw w w' (.slice p1 n1 c1) (.slice p2 n2 c2) (Ix.findT s v) (Ix.findL s v) := by
  have HMV := Mm.hid (And.intro hM hv)
  clear hM hv
  have HLE : Hid (∀ w1, Below w.heap.size w w1 → Calls Tryz.prog 41 #[.agg #[.int .i64 v.k, .int .i64 v.n, .float .f64 v.f, .string v.s]] w1 fun e w' => e = .returned (.tuple #[.string (Ky.entB v 0), .int .i64 (Ky.entE v 0)]) ∧ Below w1.heap.size w1 w') := Mm.hid (fun w1 hb => refLeast_any v w1 (HMV.out.1.below hb) HMV.out.2)
  unfold Ix.findT Ix.findL
  obtain ⟨E, hE⟩ : ∃ E, Ky.entE v 0 = E := ⟨_, rfl⟩
  have hc3 := Ix.entE_cases v 0
  rw [hE] at hc3 HLE ⊢
  generalize h91 : (if E = 0 then List.map Ix.tidOf (Lf.spanK s (Ky.entB v 0) (Ky.aftB v)) else []) = TT
  generalize h92 : (if E = 0 then Lf.spanL s (Ky.entB v 0) (Ky.aftB v) else []) = LL
  have HTL := Mm.hid (And.intro h91 h92)
  clear h91 h92
  go_enter Tryz.func16, Tryz.ntmps16
  go_upto_region 1 with fail
  obtain ⟨gv, hgv⟩ : ∃ g, g = w.heap.size := ⟨_, rfl⟩
  obtain ⟨gr, hgr⟩ : ∃ g, g = w.heap.size + 1 := ⟨_, rfl⟩
  obtain ⟨wB, hwB⟩ : ∃ y, (w.alloc (.cells #[.int .i64 v.k, .int .i64 v.n, .float .f64 v.f, .string v.s] 34)).alloc (.cells #[.slice none 0 0, .slice none 0 0] 48) = y := ⟨_, rfl⟩
  have HRwB : Hid (wB.heap[gr]? = some (.cells #[.slice none 0 0, .slice none 0 0] 48 (0, 0))) := Mm.hid (by rw [← hwB]; exact Mm.newAt _ _ (by simp [hgr]))
  have HVwB : Hid (wB.heap[gv]? = some (.cells #[.int .i64 v.k, .int .i64 v.n, .float .f64 v.f, .string v.s] 34 (0, 0))) := Mm.hid (by rw [← hwB]; exact (Mm.oldAt _ _ (by simp [hgv])).trans (Mm.newAt _ _ hgv))
  have HBwB : Hid (Below w.heap.size w wB) := Mm.hid (by rw [← hwB]; exact Vl.bal (Vl.bal (Below.refl _ _) _) _)
  have HLwB : Hid (w.heap.size ≤ gr ∧ gr < wB.heap.size) := Mm.hid ⟨by omega, Mm.heapLt HRwB.out⟩
  rw [← hgr, ← hgv, hwB]
  clear hwB hgv hgr
  have c0 : wB.cell? ⟨gv, 0, none⟩ = some (.int .i64 v.k) := Mm.cellOf HVwB.out rfl
  have c1 : wB.cell? ⟨gv, 1, none⟩ = some (.int .i64 v.n) := Mm.cellOf HVwB.out rfl
  have c2 : wB.cell? ⟨gv, 2, none⟩ = some (.float .f64 v.f) := Mm.cellOf HVwB.out rfl
  have c3 : wB.cell? ⟨gv, 3, none⟩ = some (.string v.s) := Mm.cellOf HVwB.out rfl
  go_wp2_with fail
  refine (HLE.out _ HBwB.out).mono ?_
  rintro e w1 ⟨rfl, hb⟩
  clear c0 c1 c2 c3
  have HBw1 : Hid (Below w.heap.size w w1) := Mm.hid (Vl.btr HBwB.out hb)
  have HRw1 : Hid (w1.heap[gr]? = some (.cells #[.slice none 0 0, .slice none 0 0] 48 (0, 0))) := Mm.hid ((hb.block _ (Mm.heapLt HRwB.out)).trans HRwB.out)
  have HVw1 : Hid (w1.heap[gv]? = some (.cells #[.int .i64 v.k, .int .i64 v.n, .float .f64 v.f, .string v.s] 34 (0, 0))) := Mm.hid ((hb.block _ (Mm.heapLt HVwB.out)).trans HVwB.out)
  have HLw1 : Hid (w.heap.size ≤ gr ∧ gr < w1.heap.size) := Mm.hid ⟨HLwB.out.1, Mm.heapLt HRw1.out⟩
  clear hb HBwB HLwB HRwB HVwB
  have c0 : w1.cell? ⟨gv, 0, none⟩ = some (.int .i64 v.k) := Mm.cellOf HVw1.out rfl
  have c1 : w1.cell? ⟨gv, 1, none⟩ = some (.int .i64 v.n) := Mm.cellOf HVw1.out rfl
  have c2 : w1.cell? ⟨gv, 2, none⟩ = some (.float .f64 v.f) := Mm.cellOf HVw1.out rfl
  have c3 : w1.cell? ⟨gv, 3, none⟩ = some (.string v.s) := Mm.cellOf HVw1.out rfl
  go_wp2_with fail
  refine (refAfter_any v w1 (HMV.out.1.below HBw1.out) HMV.out.2).mono ?_
  rintro e w2 ⟨rfl, hb⟩
  clear c0 c1 c2 c3
  have HBw2 : Hid (Below w.heap.size w w2) := Mm.hid (Vl.btr HBw1.out hb)
  have HRw2 : Hid (w2.heap[gr]? = some (.cells #[.slice none 0 0, .slice none 0 0] 48 (0, 0))) := Mm.hid ((hb.block _ (Mm.heapLt HRw1.out)).trans HRw1.out)
  have HVw2 : Hid (w2.heap[gv]? = some (.cells #[.int .i64 v.k, .int .i64 v.n, .float .f64 v.f, .string v.s] 34 (0, 0))) := Mm.hid ((hb.block _ (Mm.heapLt HVw1.out)).trans HVw1.out)
  have HLw2 : Hid (w.heap.size ≤ gr ∧ gr < w2.heap.size) := Mm.hid ⟨HLw1.out.1, Mm.heapLt HRw2.out⟩
  clear hb HBw1 HLw1 HRw1 HVw1
  rcases hc3 with rfl | h0
  · have hg : Ky.ofE v = 0 := by unfold Ky.ofE; rw [Ix.entE_least.1 hE]; rfl
    rw [hg]
    have HSP := Mm.hid (refSpan_any (Mm.hid (H.out.below HBw2.out)) hz (Ky.entB v 0) (Ky.aftB v))
    clear hE hg
    go_wp2_with fail
    refine HSP.out.mono ?_
    rintro e w3 ⟨p1, n1, c1, p2, n2, c2, rfl, hT⟩
    have HT := Mm.hid hT
    have HRw3 : Hid (w3.heap[gr]? = some (.cells #[.slice none 0 0, .slice none 0 0] 48 (0, 0))) := Mm.hid ((hT.bel.block _ (Mm.heapLt HRw2.out)).trans HRw2.out)
    clear hT
    have x0 : w3.cell? ⟨gr, 0, none⟩ = some (.slice none 0 0) := Mm.cellOf HRw3.out rfl
    have x1 : w3.cell? ⟨gr, 1, none⟩ = some (.slice none 0 0) := Mm.cellOf HRw3.out rfl
    have f0 : w3.frozen? ⟨gr, 0, none⟩ = false := by simp [World.frozen?, HRw3.out]
    have f1 : w3.frozen? ⟨gr, 1, none⟩ = false := by simp [World.frozen?, HRw3.out]
    go_wp2_with fail
    obtain ⟨d0, d1⟩ := Ix.set2 (w := w3) (b := gr) (.slice p1 n1 c1) (.slice p2 n2 c2) ⟨_, x0⟩ ⟨_, x1⟩
    refine bodyPost_ret (v := .agg #[.slice p1 n1 c1, .slice p2 n2 c2]) (by simp [results, Tryz.results16, go_sem, d0, d1]) rfl ⟨_, _, _, _, _, _, rfl, (by obtain ⟨h1, h2⟩ := HTL.out; rw [if_pos trivial] at h1 h2; rw [← h1, ← h2]; exact HT.out.fin HBw2.out HLw2.out _ _)⟩
  · have h0' : E ≠ 0 := by rcases h0 with e | e <;> rw [e] <;> decide
    have HE0 := Mm.hid h0'
    have hbq : (E == 0) = false := beq_eq_false_iff_ne.2 h0'
    clear h0 h0' hE
    have x0 : w2.cell? ⟨gr, 0, none⟩ = some (.slice none 0 0) := Mm.cellOf HRw2.out rfl
    have x1 : w2.cell? ⟨gr, 1, none⟩ = some (.slice none 0 0) := Mm.cellOf HRw2.out rfl
    have f0 : w2.frozen? ⟨gr, 0, none⟩ = false := by simp [World.frozen?, HRw2.out]
    have f1 : w2.frozen? ⟨gr, 1, none⟩ = false := by simp [World.frozen?, HRw2.out]
    go_wp2_with fail
    obtain ⟨d0, d1⟩ := Ix.set2 (w := w2) (b := gr) (.slice none 0 0) (.slice none 0 0) ⟨_, x0⟩ ⟨_, x1⟩
    refine bodyPost_ret (v := .agg #[.slice none 0 0, .slice none 0 0]) (by simp [results, Tryz.results16, go_sem, d0, d1]) rfl ⟨_, _, _, _, _, _, rfl, (by obtain ⟨h1, h2⟩ := HTL.out; rw [if_neg HE0.out] at h1 h2; rw [← h1, ← h2]; exact (Ix.Tw.nil (Below.refl _ _)).fin HBw2.out HLw2.out _ _)⟩

set_option maxRecDepth 100000 in
set_option maxHeartbeats 4000000 in
theorem refRangeI_any (H : Hid (Ix.Rx w qb pr r c kf s)) (hz : Hid (Ix.Sz s)) (v x : Vl.V) (hM : Ky.Mx w) (hv : Ky.In v) (hx : Ky.In x) :
    Calls Tryz.prog 18 #[.pointer (some ⟨qb, 0, none⟩), .agg #[.int .i64 v.k, .int .i64 v.n, .float .f64 v.f, .string v.s], .agg #[.int .i64 x.k, .int .i64 x.n, .float .f64 x.f, .string x.s]] w fun e w' => ∃ p1 n1 c1 p2 n2 c2, e = .returned (.agg #[.slice p1 n1 c1, .slice p2 n2 c2]) ∧ Ix.Tw w w' (.slice p1 n1 c1) (.slice p2 n2 c2) (Ix.rangeT s v x) (Ix.rangeL s v x) := by
  have HMV := Mm.hid (And.intro hM (And.intro hv hx))
  clear hM hv hx
  have HLE : Hid (∀ w1, Below w.heap.size w w1 → Calls Tryz.prog 41 #[.agg #[.int .i64 v.k, .int .i64 v.n, .float .f64 v.f, .string v.s]] w1 fun e w' => e = .returned (.tuple #[.string (Ky.entB v 0), .int .i64 (Ky.entE v 0)]) ∧ Below w1.heap.size w1 w') := Mm.hid (fun w1 hb => refLeast_any v w1 (HMV.out.1.below hb) HMV.out.2.1)
  have HLX : Hid (∀ w1, Below w.heap.size w w1 → Calls Tryz.prog 41 #[.agg #[.int .i64 x.k, .int .i64 x.n, .float .f64 x.f, .string x.s]] w1 fun e w' => e = .returned (.tuple #[.string (Ky.entB x 0), .int .i64 (Ky.entE x 0)]) ∧ Below w1.heap.size w1 w') := Mm.hid (fun w1 hb => refLeast_any x w1 (HMV.out.1.below hb) HMV.out.2.2)
  unfold Ix.rangeT Ix.rangeL
  obtain ⟨E, hE⟩ : ∃ E, Ky.entE v 0 = E := ⟨_, rfl⟩
  obtain ⟨F, hF⟩ : ∃ F, Ky.entE x 0 = F := ⟨_, rfl⟩
  have hc3 := Ix.entE_cases v 0
  have hc4 := Ix.entE_cases x 0
  rw [hE] at hc3 HLE ⊢
  rw [hF] at hc4 HLX ⊢
  generalize h91 : (if E = 0 ∧ F = 0 then List.map Ix.tidOf (Lf.spanK s (Ky.entB v 0) (Ky.entB x 0)) else []) = TT
  generalize h92 : (if E = 0 ∧ F = 0 then Lf.spanL s (Ky.entB v 0) (Ky.entB x 0) else []) = LL
  have HTL := Mm.hid (And.intro h91 h92)
  clear h91 h92
  go_enter Tryz.func18, Tryz.ntmps18
  go_upto_region 1 with fail
  obtain ⟨gv, hgv⟩ : ∃ g, g = w.heap.size := ⟨_, rfl⟩
  obtain ⟨gx, hgx⟩ : ∃ g, g = w.heap.size + 1 := ⟨_, rfl⟩
  obtain ⟨gr, hgr⟩ : ∃ g, g = w.heap.size + 1 + 1 := ⟨_, rfl⟩
  obtain ⟨wB, hwB⟩ : ∃ y, ((w.alloc (.cells #[.int .i64 v.k, .int .i64 v.n, .float .f64 v.f, .string v.s] 34)).alloc (.cells #[.int .i64 x.k, .int .i64 x.n, .float .f64 x.f, .string x.s] 34)).alloc (.cells #[.slice none 0 0, .slice none 0 0] 48) = y := ⟨_, rfl⟩
  have HRwB : Hid (wB.heap[gr]? = some (.cells #[.slice none 0 0, .slice none 0 0] 48 (0, 0))) := Mm.hid (by rw [← hwB]; exact Mm.newAt _ _ (by simp [hgr]))
  have HXwB : Hid (wB.heap[gx]? = some (.cells #[.int .i64 x.k, .int .i64 x.n, .float .f64 x.f, .string x.s] 34 (0, 0))) := Mm.hid (by rw [← hwB]; exact (Mm.oldAt _ _ (by simp [hgx])).trans (Mm.newAt _ _ (by simp [hgx])))
  have HVwB : Hid (wB.heap[gv]? = some (.cells #[.int .i64 v.k, .int .i64 v.n, .float .f64 v.f, .string v.s] 34 (0, 0))) := Mm.hid (by rw [← hwB]; exact (Mm.oldAt _ _ (by simp [hgv]; omega)).trans ((Mm.oldAt _ _ (by simp [hgv])).trans (Mm.newAt _ _ hgv)))
  have HBwB : Hid (Below w.heap.size w wB) := Mm.hid (by rw [← hwB]; exact Vl.bal (Vl.bal (Vl.bal (Below.refl _ _) _) _) _)
  have HLwB : Hid (w.heap.size ≤ gr ∧ gr < wB.heap.size) := Mm.hid ⟨by omega, Mm.heapLt HRwB.out⟩
  rw [← hgr, ← hgx, ← hgv, hwB]
  clear hwB hgv hgr hgx
  have c0 : wB.cell? ⟨gv, 0, none⟩ = some (.int .i64 v.k) := Mm.cellOf HVwB.out rfl
  have c1 : wB.cell? ⟨gv, 1, none⟩ = some (.int .i64 v.n) := Mm.cellOf HVwB.out rfl
  have c2 : wB.cell? ⟨gv, 2, none⟩ = some (.float .f64 v.f) := Mm.cellOf HVwB.out rfl
  have c3 : wB.cell? ⟨gv, 3, none⟩ = some (.string v.s) := Mm.cellOf HVwB.out rfl
  go_wp2_with fail
  refine (HLE.out _ HBwB.out).mono ?_
  rintro e w1 ⟨rfl, hb⟩
  clear c0 c1 c2 c3
  have HBw1 : Hid (Below w.heap.size w w1) := Mm.hid (Vl.btr HBwB.out hb)
  have HRw1 : Hid (w1.heap[gr]? = some (.cells #[.slice none 0 0, .slice none 0 0] 48 (0, 0))) := Mm.hid ((hb.block _ (Mm.heapLt HRwB.out)).trans HRwB.out)
  have HVw1 : Hid (w1.heap[gv]? = some (.cells #[.int .i64 v.k, .int .i64 v.n, .float .f64 v.f, .string v.s] 34 (0, 0))) := Mm.hid ((hb.block _ (Mm.heapLt HVwB.out)).trans HVwB.out)
  have HXw1 : Hid (w1.heap[gx]? = some (.cells #[.int .i64 x.k, .int .i64 x.n, .float .f64 x.f, .string x.s] 34 (0, 0))) := Mm.hid ((hb.block _ (Mm.heapLt HXwB.out)).trans HXwB.out)
  have HLw1 : Hid (w.heap.size ≤ gr ∧ gr < w1.heap.size) := Mm.hid ⟨HLwB.out.1, Mm.heapLt HRw1.out⟩
  clear hb HBwB HLwB HRwB HVwB HXwB
  have d0 : w1.cell? ⟨gx, 0, none⟩ = some (.int .i64 x.k) := Mm.cellOf HXw1.out rfl
  have d1 : w1.cell? ⟨gx, 1, none⟩ = some (.int .i64 x.n) := Mm.cellOf HXw1.out rfl
  have d2 : w1.cell? ⟨gx, 2, none⟩ = some (.float .f64 x.f) := Mm.cellOf HXw1.out rfl
  have d3 : w1.cell? ⟨gx, 3, none⟩ = some (.string x.s) := Mm.cellOf HXw1.out rfl
  go_wp2_with fail
  refine (HLX.out _ HBw1.out).mono ?_
  rintro e w2 ⟨rfl, hb⟩
  clear d0 d1 d2 d3
  have HBw2 : Hid (Below w.heap.size w w2) := Mm.hid (Vl.btr HBw1.out hb)
  have HRw2 : Hid (w2.heap[gr]? = some (.cells #[.slice none 0 0, .slice none 0 0] 48 (0, 0))) := Mm.hid ((hb.block _ (Mm.heapLt HRw1.out)).trans HRw1.out)
  have HVw2 : Hid (w2.heap[gv]? = some (.cells #[.int .i64 v.k, .int .i64 v.n, .float .f64 v.f, .string v.s] 34 (0, 0))) := Mm.hid ((hb.block _ (Mm.heapLt HVw1.out)).trans HVw1.out)
  have HXw2 : Hid (w2.heap[gx]? = some (.cells #[.int .i64 x.k, .int .i64 x.n, .float .f64 x.f, .string x.s] 34 (0, 0))) := Mm.hid ((hb.block _ (Mm.heapLt HXw1.out)).trans HXw1.out)
  have HLw2 : Hid (w.heap.size ≤ gr ∧ gr < w2.heap.size) := Mm.hid ⟨HLw1.out.1, Mm.heapLt HRw2.out⟩
  clear hb HBw1 HLw1 HRw1 HVw1 HXw1
  rcases hc3 with rfl | h0
  · rcases hc4 with rfl | h0
    · have HGV := Mm.hid (And.intro (HMV.out.2.1.good (Ix.entE_least.1 hE)) (HMV.out.2.2.good (Ix.entE_least.1 hF)))
      clear hE hF
      have c0 : w2.cell? ⟨gv, 0, none⟩ = some (.int .i64 v.k) := Mm.cellOf HVw2.out rfl
      have c1 : w2.cell? ⟨gv, 1, none⟩ = some (.int .i64 v.n) := Mm.cellOf HVw2.out rfl
      have c2 : w2.cell? ⟨gv, 2, none⟩ = some (.float .f64 v.f) := Mm.cellOf HVw2.out rfl
      have c3 : w2.cell? ⟨gv, 3, none⟩ = some (.string v.s) := Mm.cellOf HVw2.out rfl
      have d0 : w2.cell? ⟨gx, 0, none⟩ = some (.int .i64 x.k) := Mm.cellOf HXw2.out rfl
      have d1 : w2.cell? ⟨gx, 1, none⟩ = some (.int .i64 x.n) := Mm.cellOf HXw2.out rfl
      have d2 : w2.cell? ⟨gx, 2, none⟩ = some (.float .f64 x.f) := Mm.cellOf HXw2.out rfl
      have d3 : w2.cell? ⟨gx, 3, none⟩ = some (.string x.s) := Mm.cellOf HXw2.out rfl
      obtain ⟨C, hC⟩ : ∃ C, Vl.cmpV v x = C := ⟨_, rfl⟩
      go_wp2_with fail
      refine (refCmpV_any v x w2).mono ?_
      rintro e w3 ⟨rfl, hw3⟩
      rw [hC]
      have hb : Below w2.heap.size w2 w3 := by rw [hw3]; exact Vl.bal (Vl.bal (Below.refl _ _) _) _
      clear hw3
      clear c0 c1 c2 c3
      clear d0 d1 d2 d3
      have HBw3 : Hid (Below w.heap.size w w3) := Mm.hid (Vl.btr HBw2.out hb)
      have HRw3 : Hid (w3.heap[gr]? = some (.cells #[.slice none 0 0, .slice none 0 0] 48 (0, 0))) := Mm.hid ((hb.block _ (Mm.heapLt HRw2.out)).trans HRw2.out)
      have HVw3 : Hid (w3.heap[gv]? = some (.cells #[.int .i64 v.k, .int .i64 v.n, .float .f64 v.f, .string v.s] 34 (0, 0))) := Mm.hid ((hb.block _ (Mm.heapLt HVw2.out)).trans HVw2.out)
      have HXw3 : Hid (w3.heap[gx]? = some (.cells #[.int .i64 x.k, .int .i64 x.n, .float .f64 x.f, .string x.s] 34 (0, 0))) := Mm.hid ((hb.block _ (Mm.heapLt HXw2.out)).trans HXw2.out)
      have HLw3 : Hid (w.heap.size ≤ gr ∧ gr < w3.heap.size) := Mm.hid ⟨HLw2.out.1, Mm.heapLt HRw3.out⟩
      clear hb HBw2 HLw2 HRw2 HVw2 HXw2
      by_cases h : 0 ≤ C
      · obtain ⟨e1, e2⟩ := Ix.span_none (s := s) HGV.out.1 HGV.out.2 (by rw [hC]; exact h)
        have HEE := Mm.hid (And.intro e1 e2)
        have k1 : decide ((0 : Int) ≤ C) = true := decide_eq_true h
        clear e1 e2 hC
        have x0 : w3.cell? ⟨gr, 0, none⟩ = some (.slice none 0 0) := Mm.cellOf HRw3.out rfl
        have x1 : w3.cell? ⟨gr, 1, none⟩ = some (.slice none 0 0) := Mm.cellOf HRw3.out rfl
        have f0 : w3.frozen? ⟨gr, 0, none⟩ = false := by simp [World.frozen?, HRw3.out]
        have f1 : w3.frozen? ⟨gr, 1, none⟩ = false := by simp [World.frozen?, HRw3.out]
        go_wp2_with fail
        obtain ⟨d0, d1⟩ := Ix.set2 (w := w3) (b := gr) (.slice none 0 0) (.slice none 0 0) ⟨_, x0⟩ ⟨_, x1⟩
        refine bodyPost_ret (v := .agg #[.slice none 0 0, .slice none 0 0]) (by simp [results, Tryz.results18, go_sem, d0, d1]) rfl ⟨_, _, _, _, _, _, rfl, (by obtain ⟨h1, h2⟩ := HTL.out; rw [if_pos ⟨by first | trivial | rfl, by first | trivial | rfl⟩] at h1 h2; rw [HEE.out.1] at h1; rw [HEE.out.2] at h2; rw [← h1, ← h2]; exact (Ix.Tw.nil (Below.refl _ _)).fin HBw3.out HLw3.out _ _)⟩
      · have k1 : decide ((0 : Int) ≤ C) = false := decide_eq_false h
        have HSP := Mm.hid (refSpan_any (Mm.hid (H.out.below HBw3.out)) hz (Ky.entB v 0) (Ky.entB x 0))
        clear hC
        go_wp2_with fail
        refine HSP.out.mono ?_
        rintro e w4 ⟨p1, n1, c1, p2, n2, c2, rfl, hT⟩
        have HT := Mm.hid hT
        have HRw4 : Hid (w4.heap[gr]? = some (.cells #[.slice none 0 0, .slice none 0 0] 48 (0, 0))) := Mm.hid ((hT.bel.block _ (Mm.heapLt HRw3.out)).trans HRw3.out)
        clear hT
        have x0 : w4.cell? ⟨gr, 0, none⟩ = some (.slice none 0 0) := Mm.cellOf HRw4.out rfl
        have x1 : w4.cell? ⟨gr, 1, none⟩ = some (.slice none 0 0) := Mm.cellOf HRw4.out rfl
        have f0 : w4.frozen? ⟨gr, 0, none⟩ = false := by simp [World.frozen?, HRw4.out]
        have f1 : w4.frozen? ⟨gr, 1, none⟩ = false := by simp [World.frozen?, HRw4.out]
        go_wp2_with fail
        obtain ⟨d0, d1⟩ := Ix.set2 (w := w4) (b := gr) (.slice p1 n1 c1) (.slice p2 n2 c2) ⟨_, x0⟩ ⟨_, x1⟩
        refine bodyPost_ret (v := .agg #[.slice p1 n1 c1, .slice p2 n2 c2]) (by simp [results, Tryz.results18, go_sem, d0, d1]) rfl ⟨_, _, _, _, _, _, rfl, (by obtain ⟨h1, h2⟩ := HTL.out; rw [if_pos ⟨by first | trivial | rfl, by first | trivial | rfl⟩] at h1 h2; rw [← h1, ← h2]; exact HT.out.fin HBw3.out HLw3.out _ _)⟩
    · have h0' : F ≠ 0 := by rcases h0 with e | e <;> rw [e] <;> decide
      have HE0 := Mm.hid h0'
      have hbq : (F == 0) = false := beq_eq_false_iff_ne.2 h0'
      clear h0 h0' hE hF
      have x0 : w2.cell? ⟨gr, 0, none⟩ = some (.slice none 0 0) := Mm.cellOf HRw2.out rfl
      have x1 : w2.cell? ⟨gr, 1, none⟩ = some (.slice none 0 0) := Mm.cellOf HRw2.out rfl
      have f0 : w2.frozen? ⟨gr, 0, none⟩ = false := by simp [World.frozen?, HRw2.out]
      have f1 : w2.frozen? ⟨gr, 1, none⟩ = false := by simp [World.frozen?, HRw2.out]
      go_wp2_with fail
      obtain ⟨d0, d1⟩ := Ix.set2 (w := w2) (b := gr) (.slice none 0 0) (.slice none 0 0) ⟨_, x0⟩ ⟨_, x1⟩
      refine bodyPost_ret (v := .agg #[.slice none 0 0, .slice none 0 0]) (by simp [results, Tryz.results18, go_sem, d0, d1]) rfl ⟨_, _, _, _, _, _, rfl, (by obtain ⟨h1, h2⟩ := HTL.out; rw [if_neg (fun h => HE0.out h.2)] at h1 h2; rw [← h1, ← h2]; exact (Ix.Tw.nil (Below.refl _ _)).fin HBw2.out HLw2.out _ _)⟩
  · have h0' : E ≠ 0 := by rcases h0 with e | e <;> rw [e] <;> decide
    have HE0 := Mm.hid h0'
    have hbq : (E == 0) = false := beq_eq_false_iff_ne.2 h0'
    clear h0 h0' hE hF
    have x0 : w2.cell? ⟨gr, 0, none⟩ = some (.slice none 0 0) := Mm.cellOf HRw2.out rfl
    have x1 : w2.cell? ⟨gr, 1, none⟩ = some (.slice none 0 0) := Mm.cellOf HRw2.out rfl
    have f0 : w2.frozen? ⟨gr, 0, none⟩ = false := by simp [World.frozen?, HRw2.out]
    have f1 : w2.frozen? ⟨gr, 1, none⟩ = false := by simp [World.frozen?, HRw2.out]
    go_wp2_with fail
    obtain ⟨d0, d1⟩ := Ix.set2 (w := w2) (b := gr) (.slice none 0 0) (.slice none 0 0) ⟨_, x0⟩ ⟨_, x1⟩
    refine bodyPost_ret (v := .agg #[.slice none 0 0, .slice none 0 0]) (by simp [results, Tryz.results18, go_sem, d0, d1]) rfl ⟨_, _, _, _, _, _, rfl, (by obtain ⟨h1, h2⟩ := HTL.out; rw [if_neg (fun h => HE0.out h.1)] at h1 h2; rw [← h1, ← h2]; exact (Ix.Tw.nil (Below.refl _ _)).fin HBw2.out HLw2.out _ _)⟩

set_option maxRecDepth 100000 in
set_option maxHeartbeats 4000000 in
theorem refAddI_any (H : Hid (Lf.Rm w base pr r c kf s)) (hbx : Hid (w.heap[qb]? = some (.cells #[.pointer (some ⟨pr, 0, none⟩)] 57 (0, 0)))) (hI : Hid (Lf.Inv s)) (hbase : Hid (base ≤ w.heap.size)) (hn : s.pgs.length ≤ 100000) (hla : s.last ≤ 100000) (v : Vl.V) (n : Int) (hM : Ky.Mx w) (hv : Ky.In v) :
    Calls Tryz.prog 12 #[.pointer (some ⟨qb, 0, none⟩), .agg #[.int .i64 v.k, .int .i64 v.n, .float .f64 v.f, .string v.s], .int .i64 n] w fun e w' => ∃ s' l f t er, e = .returned (.agg #[.int .i64 ((l : Nat) : Int), .int .i64 ((f : Nat) : Int), .int .i64 ((t : Nat) : Int), .int .i64 ((er : Nat) : Int)]) ∧ Ix.AddR s v n s' l f t er ∧ Lf.Out w base pr r kf s w' s' := by
  have HMV := Mm.hid (And.intro hM hv)
  have HNL := Mm.hid (And.intro hn hla)
  clear hM hv hn hla
  have HLE : Hid (∀ w1, Below w.heap.size w w1 → Calls Tryz.prog 34 #[.agg #[.int .i64 v.k, .int .i64 v.n, .float .f64 v.f, .string v.s], .int .i64 n] w1 fun e w' => e = .returned (.tuple #[.string (Ky.entB v n), .int .i64 (Ky.entE v n)]) ∧ Below w1.heap.size w1 w') := Mm.hid (fun w1 hb => refEntry_any v n w1 (HMV.out.1.below hb) HMV.out.2)
  unfold Ix.AddR
  obtain ⟨E, hE⟩ : ∃ E, Ky.entE v n = E := ⟨_, rfl⟩
  obtain ⟨B, hB⟩ : ∃ B, Ky.entB v n = B := ⟨_, rfl⟩
  have hc3 := Ix.entE_cases v n
  rw [hE] at hc3 HLE ⊢
  rw [hB] at HLE ⊢
  clear hE hB
  go_enter Tryz.func12, Tryz.ntmps12
  go_upto_region 1 with fail
  obtain ⟨gv, hgv⟩ : ∃ g, g = w.heap.size := ⟨_, rfl⟩
  obtain ⟨gr, hgr⟩ : ∃ g, g = w.heap.size + 1 := ⟨_, rfl⟩
  obtain ⟨wB, hwB⟩ : ∃ y, (w.alloc (.cells #[.int .i64 v.k, .int .i64 v.n, .float .f64 v.f, .string v.s] 34)).alloc (.cells #[.int .i64 0, .int .i64 0, .int .i64 0, .int .i64 0] 42) = y := ⟨_, rfl⟩
  have HRwB : Hid (wB.heap[gr]? = some (.cells #[.int .i64 0, .int .i64 0, .int .i64 0, .int .i64 0] 42 (0, 0))) := Mm.hid (by rw [← hwB]; exact Mm.newAt _ _ (by simp [hgr]))
  have HVwB : Hid (wB.heap[gv]? = some (.cells #[.int .i64 v.k, .int .i64 v.n, .float .f64 v.f, .string v.s] 34 (0, 0))) := Mm.hid (by rw [← hwB]; exact (Mm.oldAt _ _ (by simp [hgv])).trans (Mm.newAt _ _ hgv))
  have HBwB : Hid (Below w.heap.size w wB) := Mm.hid (by rw [← hwB]; exact Vl.bal (Vl.bal (Below.refl _ _) _) _)
  have HLwB : Hid (w.heap.size ≤ gr ∧ gr < wB.heap.size) := Mm.hid ⟨by omega, Mm.heapLt HRwB.out⟩
  rw [← hgr, ← hgv, hwB]
  clear hwB hgv hgr
  have c0 : wB.cell? ⟨gv, 0, none⟩ = some (.int .i64 v.k) := Mm.cellOf HVwB.out rfl
  have c1 : wB.cell? ⟨gv, 1, none⟩ = some (.int .i64 v.n) := Mm.cellOf HVwB.out rfl
  have c2 : wB.cell? ⟨gv, 2, none⟩ = some (.float .f64 v.f) := Mm.cellOf HVwB.out rfl
  have c3 : wB.cell? ⟨gv, 3, none⟩ = some (.string v.s) := Mm.cellOf HVwB.out rfl
  go_wp2_with fail
  refine (HLE.out _ HBwB.out).mono ?_
  rintro e w1 ⟨rfl, hb⟩
  clear c0 c1 c2 c3
  have HBw1 : Hid (Below w.heap.size w w1) := Mm.hid (Vl.btr HBwB.out hb)
  have HRw1 : Hid (w1.heap[gr]? = some (.cells #[.int .i64 0, .int .i64 0, .int .i64 0, .int .i64 0] 42 (0, 0))) := Mm.hid ((hb.block _ (Mm.heapLt HRwB.out)).trans HRwB.out)
  have HLw1 : Hid (w.heap.size ≤ gr ∧ gr < w1.heap.size) := Mm.hid ⟨HLwB.out.1, Mm.heapLt HRw1.out⟩
  clear HVwB hb HBwB HLwB HRwB
  rcases hc3 with rfl | h0
  · have HX1 : Hid (w1.heap[qb]? = some (.cells #[.pointer (some ⟨pr, 0, none⟩)] 57 (0, 0))) := Mm.hid ((HBw1.out.block _ (Mm.heapLt hbx.out)).trans hbx.out)
    have hc : w1.cell? ⟨qb, 0, none⟩ = some (.pointer (some ⟨pr, 0, none⟩)) := Mm.cellOf HX1.out rfl
    have HI := Mm.hid (refInsert_any (Mm.hid (H.out.below HBw1.out)) hI (Mm.hid (Nat.le_trans hbase.out HBw1.out.size)) HNL.out.1 HNL.out.2 B)
    go_wp2_with fail
    refine HI.out.mono ?_
    rintro e w2 ⟨s', l, f, t, er, rfl, hr, r', c', kf', hm, htc, hrb⟩
    have HR := Mm.hid hr
    have HMM := Mm.hid hm
    have HTC := Mm.hid htc
    have HRB := Mm.hid hrb
    have hne : gr ≠ pr ∧ gr ≠ r := ⟨fun e => by have h1 := Mm.heapLt H.out.head; have := HLw1.out.1; omega, fun e => by have h1 := H.out.row.1; have := HLw1.out.1; omega⟩
    have hz2 : w2.heap[gr]? = some (.cells #[.int .i64 0, .int .i64 0, .int .i64 0, .int .i64 0] 42 (0, 0)) := (htc.block gr HLw1.out.2 hne.1 hne.2).trans HRw1.out
    have HZ2 := Mm.hid hz2
    have x0 : w2.cell? ⟨gr, 0, none⟩ = some (.int .i64 0) := Mm.cellOf hz2 rfl
    have x1 : w2.cell? ⟨gr, 1, none⟩ = some (.int .i64 0) := Mm.cellOf hz2 rfl
    have x2 : w2.cell? ⟨gr, 2, none⟩ = some (.int .i64 0) := Mm.cellOf hz2 rfl
    have x3 : w2.cell? ⟨gr, 3, none⟩ = some (.int .i64 0) := Mm.cellOf hz2 rfl
    have f0 : w2.frozen? ⟨gr, 0, none⟩ = false := by simp [World.frozen?, hz2]
    have f1 : w2.frozen? ⟨gr, 1, none⟩ = false := by simp [World.frozen?, hz2]
    have f2 : w2.frozen? ⟨gr, 2, none⟩ = false := by simp [World.frozen?, hz2]
    have f3 : w2.frozen? ⟨gr, 3, none⟩ = false := by simp [World.frozen?, hz2]
    clear hr hm htc hrb hz2 hc hne
    go_wp2_with fail
    have h4 := Lf.set4 (y0 := .int .i64 ((l : Nat) : Int)) (y1 := .int .i64 ((f : Nat) : Int)) (y2 := .int .i64 ((t : Nat) : Int)) (y3 := .int .i64 ((er : Nat) : Int)) HZ2.out
    refine bodyPost_ret (v := .agg #[.int .i64 ((l : Nat) : Int), .int .i64 ((f : Nat) : Int), .int .i64 ((t : Nat) : Int), .int .i64 ((er : Nat) : Int)]) (by simp [results, Tryz.results12, go_sem, show _ = some (.int .i64 ((l : Nat) : Int)) from Mm.cellOf (i := 0) h4 rfl, show _ = some (.int .i64 ((f : Nat) : Int)) from Mm.cellOf (i := 1) h4 rfl, show _ = some (.int .i64 ((t : Nat) : Int)) from Mm.cellOf (i := 2) h4 rfl, show _ = some (.int .i64 ((er : Nat) : Int)) from Mm.cellOf (i := 3) h4 rfl]) rfl ⟨s', l, f, t, er, rfl, (by first | exact HR.out | exact Or.inr ⟨rfl, HR.out⟩ | exact Or.inr ⟨trivial, HR.out⟩), ?_⟩
    exact Ix.out_set HTC.out HBw1.out HMM.out HRB.out HLw1.out (fun b hb => hb.lt H.out) _ _ _ _
  · have h0' : E ≠ 0 := by rcases h0 with e | e <;> rw [e] <;> decide
    obtain ⟨er, her⟩ : ∃ er : Nat, (er : Int) = E := by
      rcases h0 with e | e
      · exact ⟨1, e.symm⟩
      · exact ⟨11, e.symm⟩
    have HX := Mm.hid (And.intro h0' her)
    have hbq : (E == 0) = false := beq_eq_false_iff_ne.2 h0'
    have HZ2 := HRw1
    have x0 : w1.cell? ⟨gr, 0, none⟩ = some (.int .i64 0) := Mm.cellOf HZ2.out rfl
    have x1 : w1.cell? ⟨gr, 1, none⟩ = some (.int .i64 0) := Mm.cellOf HZ2.out rfl
    have x2 : w1.cell? ⟨gr, 2, none⟩ = some (.int .i64 0) := Mm.cellOf HZ2.out rfl
    have x3 : w1.cell? ⟨gr, 3, none⟩ = some (.int .i64 0) := Mm.cellOf HZ2.out rfl
    have f0 : w1.frozen? ⟨gr, 0, none⟩ = false := by simp [World.frozen?, HZ2.out]
    have f1 : w1.frozen? ⟨gr, 1, none⟩ = false := by simp [World.frozen?, HZ2.out]
    have f2 : w1.frozen? ⟨gr, 2, none⟩ = false := by simp [World.frozen?, HZ2.out]
    have f3 : w1.frozen? ⟨gr, 3, none⟩ = false := by simp [World.frozen?, HZ2.out]
    clear h0 h0' her
    go_wp2_with fail
    have h4 := Lf.set4 (y0 := .int .i64 0) (y1 := .int .i64 0) (y2 := .int .i64 0) (y3 := .int .i64 E) HZ2.out
    refine bodyPost_ret (v := .agg #[.int .i64 0, .int .i64 0, .int .i64 0, .int .i64 E]) (by simp [results, Tryz.results12, go_sem, show _ = some (.int .i64 0) from Mm.cellOf (i := 0) h4 rfl, show _ = some (.int .i64 0) from Mm.cellOf (i := 1) h4 rfl, show _ = some (.int .i64 0) from Mm.cellOf (i := 2) h4 rfl, show _ = some (.int .i64 E) from Mm.cellOf (i := 3) h4 rfl]) rfl ⟨s, 0, 0, 0, er, by rw [HX.out.2]; rfl, .inl ⟨HX.out.1, rfl, rfl, rfl, rfl, HX.out.2⟩, ?_⟩
    exact Ix.out_set (Lf.Tc.of (Below.refl _ _)) HBw1.out (H.out.below HBw1.out) (fun b hb => .inl hb) HLw1.out (fun b hb => hb.lt H.out) _ _ _ _

set_option maxRecDepth 100000 in
set_option maxHeartbeats 4000000 in
theorem refDropI_any (H : Hid (Lf.Rm w base pr r c kf s)) (hbx : Hid (w.heap[qb]? = some (.cells #[.pointer (some ⟨pr, 0, none⟩)] 57 (0, 0)))) (hI : Hid (Lf.Inv s)) (hbase : Hid (base ≤ w.heap.size)) (hn : s.pgs.length ≤ 100000) (hla : s.last ≤ 100000) (v : Vl.V) (n : Int) (hM : Ky.Mx w) (hv : Ky.In v) :
    Calls Tryz.prog 14 #[.pointer (some ⟨qb, 0, none⟩), .agg #[.int .i64 v.k, .int .i64 v.n, .float .f64 v.f, .string v.s], .int .i64 n] w fun e w' => ∃ s' l f t er, e = .returned (.agg #[.int .i64 ((l : Nat) : Int), .int .i64 ((f : Nat) : Int), .int .i64 ((t : Nat) : Int), .int .i64 ((er : Nat) : Int)]) ∧ Ix.DropR s v n s' l f t er ∧ Lf.Out w base pr r kf s w' s' := by
  have HMV := Mm.hid (And.intro hM hv)
  have HNL := Mm.hid (And.intro hn hla)
  clear hM hv hn hla
  have HLE : Hid (∀ w1, Below w.heap.size w w1 → Calls Tryz.prog 34 #[.agg #[.int .i64 v.k, .int .i64 v.n, .float .f64 v.f, .string v.s], .int .i64 n] w1 fun e w' => e = .returned (.tuple #[.string (Ky.entB v n), .int .i64 (Ky.entE v n)]) ∧ Below w1.heap.size w1 w') := Mm.hid (fun w1 hb => refEntry_any v n w1 (HMV.out.1.below hb) HMV.out.2)
  unfold Ix.DropR
  obtain ⟨E, hE⟩ : ∃ E, Ky.entE v n = E := ⟨_, rfl⟩
  obtain ⟨B, hB⟩ : ∃ B, Ky.entB v n = B := ⟨_, rfl⟩
  have hc3 := Ix.entE_cases v n
  rw [hE] at hc3 HLE ⊢
  rw [hB] at HLE ⊢
  clear hE hB
  go_enter Tryz.func14, Tryz.ntmps14
  go_upto_region 1 with fail
  obtain ⟨gv, hgv⟩ : ∃ g, g = w.heap.size := ⟨_, rfl⟩
  obtain ⟨gr, hgr⟩ : ∃ g, g = w.heap.size + 1 := ⟨_, rfl⟩
  obtain ⟨wB, hwB⟩ : ∃ y, (w.alloc (.cells #[.int .i64 v.k, .int .i64 v.n, .float .f64 v.f, .string v.s] 34)).alloc (.cells #[.int .i64 0, .int .i64 0, .int .i64 0, .int .i64 0] 42) = y := ⟨_, rfl⟩
  have HRwB : Hid (wB.heap[gr]? = some (.cells #[.int .i64 0, .int .i64 0, .int .i64 0, .int .i64 0] 42 (0, 0))) := Mm.hid (by rw [← hwB]; exact Mm.newAt _ _ (by simp [hgr]))
  have HVwB : Hid (wB.heap[gv]? = some (.cells #[.int .i64 v.k, .int .i64 v.n, .float .f64 v.f, .string v.s] 34 (0, 0))) := Mm.hid (by rw [← hwB]; exact (Mm.oldAt _ _ (by simp [hgv])).trans (Mm.newAt _ _ hgv))
  have HBwB : Hid (Below w.heap.size w wB) := Mm.hid (by rw [← hwB]; exact Vl.bal (Vl.bal (Below.refl _ _) _) _)
  have HLwB : Hid (w.heap.size ≤ gr ∧ gr < wB.heap.size) := Mm.hid ⟨by omega, Mm.heapLt HRwB.out⟩
  rw [← hgr, ← hgv, hwB]
  clear hwB hgv hgr
  have c0 : wB.cell? ⟨gv, 0, none⟩ = some (.int .i64 v.k) := Mm.cellOf HVwB.out rfl
  have c1 : wB.cell? ⟨gv, 1, none⟩ = some (.int .i64 v.n) := Mm.cellOf HVwB.out rfl
  have c2 : wB.cell? ⟨gv, 2, none⟩ = some (.float .f64 v.f) := Mm.cellOf HVwB.out rfl
  have c3 : wB.cell? ⟨gv, 3, none⟩ = some (.string v.s) := Mm.cellOf HVwB.out rfl
  go_wp2_with fail
  refine (HLE.out _ HBwB.out).mono ?_
  rintro e w1 ⟨rfl, hb⟩
  clear c0 c1 c2 c3
  have HBw1 : Hid (Below w.heap.size w w1) := Mm.hid (Vl.btr HBwB.out hb)
  have HRw1 : Hid (w1.heap[gr]? = some (.cells #[.int .i64 0, .int .i64 0, .int .i64 0, .int .i64 0] 42 (0, 0))) := Mm.hid ((hb.block _ (Mm.heapLt HRwB.out)).trans HRwB.out)
  have HLw1 : Hid (w.heap.size ≤ gr ∧ gr < w1.heap.size) := Mm.hid ⟨HLwB.out.1, Mm.heapLt HRw1.out⟩
  clear HVwB hb HBwB HLwB HRwB
  rcases hc3 with rfl | h0
  · have HX1 : Hid (w1.heap[qb]? = some (.cells #[.pointer (some ⟨pr, 0, none⟩)] 57 (0, 0))) := Mm.hid ((HBw1.out.block _ (Mm.heapLt hbx.out)).trans hbx.out)
    have hc : w1.cell? ⟨qb, 0, none⟩ = some (.pointer (some ⟨pr, 0, none⟩)) := Mm.cellOf HX1.out rfl
    have HI := Mm.hid (refRemove_any (Mm.hid (H.out.below HBw1.out)) hI (Mm.hid (Nat.le_trans hbase.out HBw1.out.size)) HNL.out.1 B)
    go_wp2_with fail
    refine HI.out.mono ?_
    rintro e w2 ⟨s', l, f, t, er, rfl, hr, r', c', kf', hm, htc, hrb⟩
    have HR := Mm.hid hr
    have HMM := Mm.hid hm
    have HTC := Mm.hid htc
    have HRB := Mm.hid hrb
    have hne : gr ≠ pr ∧ gr ≠ r := ⟨fun e => by have h1 := Mm.heapLt H.out.head; have := HLw1.out.1; omega, fun e => by have h1 := H.out.row.1; have := HLw1.out.1; omega⟩
    have hz2 : w2.heap[gr]? = some (.cells #[.int .i64 0, .int .i64 0, .int .i64 0, .int .i64 0] 42 (0, 0)) := (htc.block gr HLw1.out.2 hne.1 hne.2).trans HRw1.out
    have HZ2 := Mm.hid hz2
    have x0 : w2.cell? ⟨gr, 0, none⟩ = some (.int .i64 0) := Mm.cellOf hz2 rfl
    have x1 : w2.cell? ⟨gr, 1, none⟩ = some (.int .i64 0) := Mm.cellOf hz2 rfl
    have x2 : w2.cell? ⟨gr, 2, none⟩ = some (.int .i64 0) := Mm.cellOf hz2 rfl
    have x3 : w2.cell? ⟨gr, 3, none⟩ = some (.int .i64 0) := Mm.cellOf hz2 rfl
    have f0 : w2.frozen? ⟨gr, 0, none⟩ = false := by simp [World.frozen?, hz2]
    have f1 : w2.frozen? ⟨gr, 1, none⟩ = false := by simp [World.frozen?, hz2]
    have f2 : w2.frozen? ⟨gr, 2, none⟩ = false := by simp [World.frozen?, hz2]
    have f3 : w2.frozen? ⟨gr, 3, none⟩ = false := by simp [World.frozen?, hz2]
    clear hr hm htc hrb hz2 hc hne
    go_wp2_with fail
    have h4 := Lf.set4 (y0 := .int .i64 ((l : Nat) : Int)) (y1 := .int .i64 ((f : Nat) : Int)) (y2 := .int .i64 ((t : Nat) : Int)) (y3 := .int .i64 ((er : Nat) : Int)) HZ2.out
    refine bodyPost_ret (v := .agg #[.int .i64 ((l : Nat) : Int), .int .i64 ((f : Nat) : Int), .int .i64 ((t : Nat) : Int), .int .i64 ((er : Nat) : Int)]) (by simp [results, Tryz.results14, go_sem, show _ = some (.int .i64 ((l : Nat) : Int)) from Mm.cellOf (i := 0) h4 rfl, show _ = some (.int .i64 ((f : Nat) : Int)) from Mm.cellOf (i := 1) h4 rfl, show _ = some (.int .i64 ((t : Nat) : Int)) from Mm.cellOf (i := 2) h4 rfl, show _ = some (.int .i64 ((er : Nat) : Int)) from Mm.cellOf (i := 3) h4 rfl]) rfl ⟨s', l, f, t, er, rfl, (by first | exact HR.out | exact Or.inr ⟨rfl, HR.out⟩ | exact Or.inr ⟨trivial, HR.out⟩), ?_⟩
    exact Ix.out_set HTC.out HBw1.out HMM.out HRB.out HLw1.out (fun b hb => hb.lt H.out) _ _ _ _
  · have h0' : E ≠ 0 := by rcases h0 with e | e <;> rw [e] <;> decide
    obtain ⟨er, her⟩ : ∃ er : Nat, (er : Int) = E := by
      rcases h0 with e | e
      · exact ⟨1, e.symm⟩
      · exact ⟨11, e.symm⟩
    have HX := Mm.hid (And.intro h0' her)
    have hbq : (E == 0) = false := beq_eq_false_iff_ne.2 h0'
    have HZ2 := HRw1
    have x0 : w1.cell? ⟨gr, 0, none⟩ = some (.int .i64 0) := Mm.cellOf HZ2.out rfl
    have x1 : w1.cell? ⟨gr, 1, none⟩ = some (.int .i64 0) := Mm.cellOf HZ2.out rfl
    have x2 : w1.cell? ⟨gr, 2, none⟩ = some (.int .i64 0) := Mm.cellOf HZ2.out rfl
    have x3 : w1.cell? ⟨gr, 3, none⟩ = some (.int .i64 0) := Mm.cellOf HZ2.out rfl
    have f0 : w1.frozen? ⟨gr, 0, none⟩ = false := by simp [World.frozen?, HZ2.out]
    have f1 : w1.frozen? ⟨gr, 1, none⟩ = false := by simp [World.frozen?, HZ2.out]
    have f2 : w1.frozen? ⟨gr, 2, none⟩ = false := by simp [World.frozen?, HZ2.out]
    have f3 : w1.frozen? ⟨gr, 3, none⟩ = false := by simp [World.frozen?, HZ2.out]
    clear h0 h0' her
    go_wp2_with fail
    have h4 := Lf.set4 (y0 := .int .i64 0) (y1 := .int .i64 0) (y2 := .int .i64 0) (y3 := .int .i64 E) HZ2.out
    refine bodyPost_ret (v := .agg #[.int .i64 0, .int .i64 0, .int .i64 0, .int .i64 E]) (by simp [results, Tryz.results14, go_sem, show _ = some (.int .i64 0) from Mm.cellOf (i := 0) h4 rfl, show _ = some (.int .i64 0) from Mm.cellOf (i := 1) h4 rfl, show _ = some (.int .i64 0) from Mm.cellOf (i := 2) h4 rfl, show _ = some (.int .i64 E) from Mm.cellOf (i := 3) h4 rfl]) rfl ⟨s, 0, 0, 0, er, by rw [HX.out.2]; rfl, .inl ⟨HX.out.1, rfl, rfl, rfl, rfl, HX.out.2⟩, ?_⟩
    exact Ix.out_set (Lf.Tc.of (Below.refl _ _)) HBw1.out (H.out.below HBw1.out) (fun b hb => .inl hb) HLw1.out (fun b hb => hb.lt H.out) _ _ _ _

end Go.Proofs.YtjnaafgiokdcbaaGreatDoor
