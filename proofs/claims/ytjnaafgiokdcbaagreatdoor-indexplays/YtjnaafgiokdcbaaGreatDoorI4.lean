/- Add, Drop, Find, Range. -/
import Derived.Test.YtjnaafgiokdcbaaGreatDoorI3
namespace Go.Proofs.YtjnaafgiokdcbaaGreatDoor
open Go.RowKit
attribute [local go_sem] Fl.run_store_float
attribute [local go_sem ↓] Go.wp_at_zero Go.wp_at_succ

namespace Ix
open Vl Ky
/-- What Add, what Drop tells, and what is left. -/
def AddR (s : Lf.S) (v : V) (n : Int) (s' : Lf.S) (l f t er : Nat) : Prop := (entE v n ≠ 0 ∧ s' = s ∧ l = 0 ∧ f = 0 ∧ t = 0 ∧ (er : Int) = entE v n) ∨ (entE v n = 0 ∧ Lf.InsR s (entB v n) s' l f t er)
def DropR (s : Lf.S) (v : V) (n : Int) (s' : Lf.S) (l f t er : Nat) : Prop := (entE v n ≠ 0 ∧ s' = s ∧ l = 0 ∧ f = 0 ∧ t = 0 ∧ (er : Int) = entE v n) ∨ (entE v n = 0 ∧ Lf.RemR s (entB v n) s' l f t er)
theorem set2 {w : World} {b : Nat} (u0 u1 : Value) (h0 : ∃ x, w.cell? ⟨b, 0, none⟩ = some x) (h1 : ∃ x, w.cell? ⟨b, 1, none⟩ = some x) : ((w.setCell ⟨b, 0, none⟩ u0).setCell ⟨b, 1, none⟩ u1).cell? ⟨b, 0, none⟩ = some u0 ∧ ((w.setCell ⟨b, 0, none⟩ u0).setCell ⟨b, 1, none⟩ u1).cell? ⟨b, 1, none⟩ = some u1 := by
  obtain ⟨x0, h0⟩ := h0
  obtain ⟨x1, h1⟩ := h1
  constructor <;> simp [go_sem, h0, h1]
theorem set2_bel {w : World} {b : Nat} (u0 u1 : Value) {n : Nat} (hn : n ≤ b) : Below n w ((w.setCell ⟨b, 0, none⟩ u0).setCell ⟨b, 1, none⟩ u1) := ((Below.refl n w).setCell (p := ⟨b, 0, none⟩) hn _).setCell (p := ⟨b, 1, none⟩) hn _
theorem set2_oth {w : World} {b g : Nat} (u0 u1 : Value) (hn : g ≠ b) : ((w.setCell ⟨b, 0, none⟩ u0).setCell ⟨b, 1, none⟩ u1).heap[g]? = w.heap[g]? := (Below.heap_setCell _ _ _ g hn).trans (Below.heap_setCell _ _ _ g hn)
end Ix

variable {h : Nat} {w : World} {tag : Nat → Option Lf.Tg} {b p : Nat} {s : Lf.S} {N : Nat}

set_option maxRecDepth 100000 in
set_option maxHeartbeats 4000000 in
theorem add_any (H : Hid (Ix.Iq h w tag b p s N)) (hN : N ≤ 4000) (hh : h ≤ w.heap.size) (v : Vl.V) (n : Int) (hM : Ky.Mx w) (hv : Ky.In v) :
    Calls Tryz.prog 11 #[.pointer (some ⟨b, 0, none⟩), .agg #[.int .i64 v.k, .int .i64 v.n, .float .f64 v.f, .string v.s], .int .i64 n] w fun e w' => ∃ s' l f t er, e = .returned (.tuple #[.int .i64 ((l : Nat) : Int), .agg #[.int .i64 ((f : Nat) : Int), .int .i64 ((t : Nat) : Int)], .int .i64 ((er : Nat) : Int)]) ∧ Ix.AddR s v n s' l f t er ∧ ∃ tag', Ix.Iq h w' tag' b p s' (N + 1) ∧ Lf.Ev tag tag' w w' := by
  obtain ⟨wA, hA⟩ : ∃ x, x = w.alloc (.cells #[.int .i64 v.k, .int .i64 v.n, .float .f64 v.f, .string v.s] 34) := ⟨_, rfl⟩
  obtain ⟨wB, hB⟩ : ∃ x, x = wA.alloc (.cells #[.int .i64 0, .int .i64 0] 38) := ⟨_, rfl⟩
  have sA : wA.heap.size = w.heap.size + 1 := by rw [hA]; simp
  have HBB : Hid (Below w.heap.size w wB) := Mm.hid (by rw [hB, hA]; exact Vl.bal (Vl.bal (Below.refl _ _) _) _)
  have HZ : Hid (wB.heap[w.heap.size + 1]? = some (.cells #[.int .i64 0, .int .i64 0] 38 (0, 0))) := Mm.hid (by rw [hB]; exact Mm.newAt _ _ sA.symm)
  have HC := Mm.hid (ientry_any ⟨b, 0, none⟩ v n wB (hM.below HBB.out) hv)
  rw [hB, hA] at HC
  have HBx : Hid (∀ w1 : World, Below ((w.alloc (.cells #[.int .i64 v.k, .int .i64 v.n, .float .f64 v.f, .string v.s] 34)).alloc (.cells #[.int .i64 0, .int .i64 0] 38)).heap.size ((w.alloc (.cells #[.int .i64 v.k, .int .i64 v.n, .float .f64 v.f, .string v.s] 34)).alloc (.cells #[.int .i64 0, .int .i64 0] 38)) w1 → Below w.heap.size w w1 ∧ w1.heap[w.heap.size + 1]? = some (.cells #[.int .i64 0, .int .i64 0] 38 (0, 0))) := Mm.hid (fun w1 hb => by
    rw [← hA, ← hB] at hb
    exact ⟨Vl.btr HBB.out hb, (hb.block _ (Mm.heapLt HZ.out)).trans HZ.out⟩)
  clear hA hB sA HBB HZ hM hv
  clear wA wB
  obtain ⟨E, hE⟩ : ∃ E, Ky.entE v n = E := ⟨_, rfl⟩
  obtain ⟨B, hB⟩ : ∃ B, Ky.entB v n = B := ⟨_, rfl⟩
  unfold Ix.AddR
  have hc3 := Ix.entE_cases v n
  rw [hE] at hc3 ⊢
  rw [hE, hB] at HC
  rw [hB]
  clear hE hB
  rcases hc3 with rfl | h0
  · go_enter Tryz.func11, Tryz.ntmps11
    go_wp2_with fail
    refine HC.out.mono ?_
    rintro e w1 ⟨rfl, hb⟩
    obtain ⟨hb1, hz1⟩ := HBx.out w1 hb
    have HB1 := Mm.hid hb1
    have HZ1 := Mm.hid hz1
    have HQ1 := Mm.hid (H.out.below hb1)
    have hh1 : h ≤ w1.heap.size := Nat.le_trans hh hb1.size
    clear hb1 hz1 hb HC HBx
    have hc := HQ1.out.cell
    have HI := Mm.hid (insert_q (Mm.hid HQ1.out.q) hN hh1 B)
    go_wp2_with fail
    refine HI.out.mono ?_
    rintro e w2 ⟨s', l, f, t, er, rfl, hr, tag', hq, hE⟩
    have HR := Mm.hid hr
    have HQ2 := Mm.hid (HQ1.out.ev hE hq)
    have HE := Mm.hid ((Lf.Ev.below (t := tag) HB1.out).trans hE)
    have hz2 := (hE.block _ (Mm.heapLt HZ1.out) (H.out.q.top _ (by omega))).trans HZ1.out
    have htg := hE.tags _ (Mm.heapLt HZ1.out) (H.out.q.top _ (by omega))
    have HTG := Mm.hid (And.intro htg (Mm.heapLt hz2))
    have c0 : w2.cell? ⟨w.heap.size + 1, 0, none⟩ = some (.int .i64 0) := Mm.cellOf hz2 rfl
    have c1 : w2.cell? ⟨w.heap.size + 1, 1, none⟩ = some (.int .i64 0) := Mm.cellOf hz2 rfl
    have f0 : w2.frozen? ⟨w.heap.size + 1, 0, none⟩ = false := by simp [World.frozen?, hz2]
    have f1 : w2.frozen? ⟨w.heap.size + 1, 1, none⟩ = false := by simp [World.frozen?, hz2]
    clear hr hE hq hz2 HZ1 HI HB1 HQ1 hc htg
    go_wp2_with fail
    obtain ⟨d0, d1⟩ := Ix.set2 (w := w2) (b := w.heap.size + 1) (.int .i64 ((f : Nat) : Int)) (.int .i64 ((t : Nat) : Int)) ⟨_, c0⟩ ⟨_, c1⟩
    refine bodyPost_ret (v := .tuple #[.int .i64 ((l : Nat) : Int), .agg #[.int .i64 ((f : Nat) : Int), .int .i64 ((t : Nat) : Int)], .int .i64 ((er : Nat) : Int)]) (by simp [results, Tryz.results11, go_sem, d0, d1]) rfl ⟨s', l, f, t, er, rfl, .inr (by simpa using HR.out), tag', ?_, ?_⟩
    · refine ⟨HQ2.out.q.keep (by simp) (fun g x hg => Ix.set2_oth _ _ (fun e => by rw [e, HTG.out.1] at hg; cases hg)), (Ix.set2_oth _ _ (fun e => ?_)).trans HQ2.out.bx, HQ2.out.t⟩
      have := H.out.lt
      omega
    · refine ⟨HE.out.os, HE.out.tape, HE.out.output, by simpa using HE.out.size, fun g hg ht => (Ix.set2_oth _ _ (by omega)).trans (HE.out.block g hg ht), HE.out.tags⟩
  · have h0' : E ≠ 0 := by rcases h0 with e | e <;> rw [e] <;> decide
    obtain ⟨er, her⟩ : ∃ er : Nat, (er : Int) = E := by
      rcases h0 with e | e
      · exact ⟨1, e.symm⟩
      · exact ⟨11, e.symm⟩
    have HX := Mm.hid (And.intro h0' her)
    have hbq : (E == 0) = false := beq_eq_false_iff_ne.2 h0'
    clear h0 h0' her
    go_enter Tryz.func11, Tryz.ntmps11
    go_wp2_with fail
    refine HC.out.mono ?_
    rintro e w2 ⟨rfl, hb⟩
    obtain ⟨hb1, hz2⟩ := HBx.out w2 hb
    have HB1 := Mm.hid hb1
    have HQ2 := Mm.hid (H.out.below hb1).inc
    have HTG := Mm.hid (And.intro (H.out.q.top (w.heap.size + 1) (by omega)) (Mm.heapLt hz2))
    have c0 : w2.cell? ⟨w.heap.size + 1, 0, none⟩ = some (.int .i64 0) := Mm.cellOf hz2 rfl
    have c1 : w2.cell? ⟨w.heap.size + 1, 1, none⟩ = some (.int .i64 0) := Mm.cellOf hz2 rfl
    have f0 : w2.frozen? ⟨w.heap.size + 1, 0, none⟩ = false := by simp [World.frozen?, hz2]
    have f1 : w2.frozen? ⟨w.heap.size + 1, 1, none⟩ = false := by simp [World.frozen?, hz2]
    clear hb1 hz2 hb HC HBx
    go_wp2_with fail
    obtain ⟨d0, d1⟩ := Ix.set2 (w := w2) (b := w.heap.size + 1) (.int .i64 0) (.int .i64 0) ⟨_, c0⟩ ⟨_, c1⟩
    refine bodyPost_ret (v := .tuple #[.int .i64 0, .agg #[.int .i64 0, .int .i64 0], .int .i64 E]) (by simp [results, Tryz.results11, go_sem, d0, d1]) rfl ⟨s, 0, 0, 0, er, by rw [HX.out.2]; rfl, .inl ⟨HX.out.1, rfl, rfl, rfl, rfl, HX.out.2⟩, tag, ?_, ?_⟩
    · refine ⟨HQ2.out.q.keep (by simp) (fun g x hg => Ix.set2_oth _ _ (fun e => by rw [e, HTG.out.1] at hg; cases hg)), (Ix.set2_oth _ _ (fun e => ?_)).trans HQ2.out.bx, HQ2.out.t⟩
      have := H.out.lt
      omega
    · exact Lf.Ev.below (HB1.out.trans (Ix.set2_bel _ _ (by omega)))

set_option maxRecDepth 100000 in
set_option maxHeartbeats 4000000 in
theorem drop_any (H : Hid (Ix.Iq h w tag b p s N)) (hN : N ≤ 4000) (hh : h ≤ w.heap.size) (v : Vl.V) (n : Int) (hM : Ky.Mx w) (hv : Ky.In v) :
    Calls Tryz.prog 13 #[.pointer (some ⟨b, 0, none⟩), .agg #[.int .i64 v.k, .int .i64 v.n, .float .f64 v.f, .string v.s], .int .i64 n] w fun e w' => ∃ s' l f t er, e = .returned (.tuple #[.int .i64 ((l : Nat) : Int), .agg #[.int .i64 ((f : Nat) : Int), .int .i64 ((t : Nat) : Int)], .int .i64 ((er : Nat) : Int)]) ∧ Ix.DropR s v n s' l f t er ∧ ∃ tag', Ix.Iq h w' tag' b p s' (N + 1) ∧ Lf.Ev tag tag' w w' := by
  obtain ⟨wA, hA⟩ : ∃ x, x = w.alloc (.cells #[.int .i64 v.k, .int .i64 v.n, .float .f64 v.f, .string v.s] 34) := ⟨_, rfl⟩
  obtain ⟨wB, hB⟩ : ∃ x, x = wA.alloc (.cells #[.int .i64 0, .int .i64 0] 38) := ⟨_, rfl⟩
  have sA : wA.heap.size = w.heap.size + 1 := by rw [hA]; simp
  have HBB : Hid (Below w.heap.size w wB) := Mm.hid (by rw [hB, hA]; exact Vl.bal (Vl.bal (Below.refl _ _) _) _)
  have HZ : Hid (wB.heap[w.heap.size + 1]? = some (.cells #[.int .i64 0, .int .i64 0] 38 (0, 0))) := Mm.hid (by rw [hB]; exact Mm.newAt _ _ sA.symm)
  have HC := Mm.hid (ientry_any ⟨b, 0, none⟩ v n wB (hM.below HBB.out) hv)
  rw [hB, hA] at HC
  have HBx : Hid (∀ w1 : World, Below ((w.alloc (.cells #[.int .i64 v.k, .int .i64 v.n, .float .f64 v.f, .string v.s] 34)).alloc (.cells #[.int .i64 0, .int .i64 0] 38)).heap.size ((w.alloc (.cells #[.int .i64 v.k, .int .i64 v.n, .float .f64 v.f, .string v.s] 34)).alloc (.cells #[.int .i64 0, .int .i64 0] 38)) w1 → Below w.heap.size w w1 ∧ w1.heap[w.heap.size + 1]? = some (.cells #[.int .i64 0, .int .i64 0] 38 (0, 0))) := Mm.hid (fun w1 hb => by
    rw [← hA, ← hB] at hb
    exact ⟨Vl.btr HBB.out hb, (hb.block _ (Mm.heapLt HZ.out)).trans HZ.out⟩)
  clear hA hB sA HBB HZ hM hv
  clear wA wB
  obtain ⟨E, hE⟩ : ∃ E, Ky.entE v n = E := ⟨_, rfl⟩
  obtain ⟨B, hB⟩ : ∃ B, Ky.entB v n = B := ⟨_, rfl⟩
  unfold Ix.DropR
  have hc3 := Ix.entE_cases v n
  rw [hE] at hc3 ⊢
  rw [hE, hB] at HC
  rw [hB]
  clear hE hB
  rcases hc3 with rfl | h0
  · go_enter Tryz.func13, Tryz.ntmps13
    go_wp2_with fail
    refine HC.out.mono ?_
    rintro e w1 ⟨rfl, hb⟩
    obtain ⟨hb1, hz1⟩ := HBx.out w1 hb
    have HB1 := Mm.hid hb1
    have HZ1 := Mm.hid hz1
    have HQ1 := Mm.hid (H.out.below hb1)
    have hh1 : h ≤ w1.heap.size := Nat.le_trans hh hb1.size
    clear hb1 hz1 hb HC HBx
    have hc := HQ1.out.cell
    have HI := Mm.hid (remove_q (Mm.hid HQ1.out.q) hN B)
    go_wp2_with fail
    refine HI.out.mono ?_
    rintro e w2 ⟨s', l, f, t, er, rfl, hr, tag', hq, hE⟩
    have HR := Mm.hid hr
    have HQ2 := Mm.hid (HQ1.out.ev hE hq)
    have HE := Mm.hid ((Lf.Ev.below (t := tag) HB1.out).trans hE)
    have hz2 := (hE.block _ (Mm.heapLt HZ1.out) (H.out.q.top _ (by omega))).trans HZ1.out
    have htg := hE.tags _ (Mm.heapLt HZ1.out) (H.out.q.top _ (by omega))
    have HTG := Mm.hid (And.intro htg (Mm.heapLt hz2))
    have c0 : w2.cell? ⟨w.heap.size + 1, 0, none⟩ = some (.int .i64 0) := Mm.cellOf hz2 rfl
    have c1 : w2.cell? ⟨w.heap.size + 1, 1, none⟩ = some (.int .i64 0) := Mm.cellOf hz2 rfl
    have f0 : w2.frozen? ⟨w.heap.size + 1, 0, none⟩ = false := by simp [World.frozen?, hz2]
    have f1 : w2.frozen? ⟨w.heap.size + 1, 1, none⟩ = false := by simp [World.frozen?, hz2]
    clear hr hE hq hz2 HZ1 HI HB1 HQ1 hc htg
    go_wp2_with fail
    obtain ⟨d0, d1⟩ := Ix.set2 (w := w2) (b := w.heap.size + 1) (.int .i64 ((f : Nat) : Int)) (.int .i64 ((t : Nat) : Int)) ⟨_, c0⟩ ⟨_, c1⟩
    refine bodyPost_ret (v := .tuple #[.int .i64 ((l : Nat) : Int), .agg #[.int .i64 ((f : Nat) : Int), .int .i64 ((t : Nat) : Int)], .int .i64 ((er : Nat) : Int)]) (by simp [results, Tryz.results13, go_sem, d0, d1]) rfl ⟨s', l, f, t, er, rfl, .inr (by simpa using HR.out), tag', ?_, ?_⟩
    · refine ⟨HQ2.out.q.keep (by simp) (fun g x hg => Ix.set2_oth _ _ (fun e => by rw [e, HTG.out.1] at hg; cases hg)), (Ix.set2_oth _ _ (fun e => ?_)).trans HQ2.out.bx, HQ2.out.t⟩
      have := H.out.lt
      omega
    · refine ⟨HE.out.os, HE.out.tape, HE.out.output, by simpa using HE.out.size, fun g hg ht => (Ix.set2_oth _ _ (by omega)).trans (HE.out.block g hg ht), HE.out.tags⟩
  · have h0' : E ≠ 0 := by rcases h0 with e | e <;> rw [e] <;> decide
    obtain ⟨er, her⟩ : ∃ er : Nat, (er : Int) = E := by
      rcases h0 with e | e
      · exact ⟨1, e.symm⟩
      · exact ⟨11, e.symm⟩
    have HX := Mm.hid (And.intro h0' her)
    have hbq : (E == 0) = false := beq_eq_false_iff_ne.2 h0'
    clear h0 h0' her
    go_enter Tryz.func13, Tryz.ntmps13
    go_wp2_with fail
    refine HC.out.mono ?_
    rintro e w2 ⟨rfl, hb⟩
    obtain ⟨hb1, hz2⟩ := HBx.out w2 hb
    have HB1 := Mm.hid hb1
    have HQ2 := Mm.hid (H.out.below hb1).inc
    have HTG := Mm.hid (And.intro (H.out.q.top (w.heap.size + 1) (by omega)) (Mm.heapLt hz2))
    have c0 : w2.cell? ⟨w.heap.size + 1, 0, none⟩ = some (.int .i64 0) := Mm.cellOf hz2 rfl
    have c1 : w2.cell? ⟨w.heap.size + 1, 1, none⟩ = some (.int .i64 0) := Mm.cellOf hz2 rfl
    have f0 : w2.frozen? ⟨w.heap.size + 1, 0, none⟩ = false := by simp [World.frozen?, hz2]
    have f1 : w2.frozen? ⟨w.heap.size + 1, 1, none⟩ = false := by simp [World.frozen?, hz2]
    clear hb1 hz2 hb HC HBx
    go_wp2_with fail
    obtain ⟨d0, d1⟩ := Ix.set2 (w := w2) (b := w.heap.size + 1) (.int .i64 0) (.int .i64 0) ⟨_, c0⟩ ⟨_, c1⟩
    refine bodyPost_ret (v := .tuple #[.int .i64 0, .agg #[.int .i64 0, .int .i64 0], .int .i64 E]) (by simp [results, Tryz.results13, go_sem, d0, d1]) rfl ⟨s, 0, 0, 0, er, by rw [HX.out.2]; rfl, .inl ⟨HX.out.1, rfl, rfl, rfl, rfl, HX.out.2⟩, tag, ?_, ?_⟩
    · refine ⟨HQ2.out.q.keep (by simp) (fun g x hg => Ix.set2_oth _ _ (fun e => by rw [e, HTG.out.1] at hg; cases hg)), (Ix.set2_oth _ _ (fun e => ?_)).trans HQ2.out.bx, HQ2.out.t⟩
      have := H.out.lt
      omega
    · exact Lf.Ev.below (HB1.out.trans (Ix.set2_bel _ _ (by omega)))

set_option maxRecDepth 100000 in
set_option maxHeartbeats 2000000 in
theorem ifind_any (H : Hid (Ix.Iq h w tag b p s N)) (hN : N ≤ 4900) (v : Vl.V) (hM : Ky.Mx w) (hv : Ky.In v) :
    Calls Tryz.prog 15 #[.pointer (some ⟨b, 0, none⟩), .agg #[.int .i64 v.k, .int .i64 v.n, .float .f64 v.f, .string v.s]] w fun e w' => ∃ v1 v2, e = .returned (.tuple #[v1, v2]) ∧ Ix.Tw w w' v1 v2 (Ix.findT s v) (Ix.findL s v) := by
  have HM := Mm.hid (hM.below (Vl.bal (Below.refl _ _) (.cells #[.int .i64 v.k, .int .i64 v.n, .float .f64 v.f, .string v.s] 34)))
  have HC := Mm.hid (least_any v _ HM.out hv)
  have HV := Mm.hid (And.intro hM hv)
  clear HM hM hv
  unfold Ix.findT Ix.findL
  obtain ⟨E, hE⟩ : ∃ E, Ky.entE v 0 = E := ⟨_, rfl⟩
  have hc3 := Ix.entE_cases v 0
  rw [hE] at hc3 HC ⊢
  rcases hc3 with rfl | h0
  · rw [if_pos rfl, if_pos rfl]
    have hg : Ky.ofE v = 0 := by unfold Ky.ofE; rw [Ix.entE_least.1 hE]; rfl
    clear hE
    go_enter Tryz.func15, Tryz.ntmps15
    go_wp2_with fail
    refine HC.out.mono ?_
    rintro e w1 ⟨rfl, hb⟩
    have HB := Mm.hid (Vl.btr (Vl.bal (Below.refl w.heap.size w) _) hb)
    have K0 : w1.heap[w.heap.size]? = some (.cells #[.int .i64 v.k, .int .i64 v.n, .float .f64 v.f, .string v.s] 34 (0, 0)) := (hb.block _ (by simp)).trans (Mm.newAt w _ rfl)
    have c0 : w1.cell? ⟨w.heap.size, 0, none⟩ = some (.int .i64 v.k) := Mm.cellOf K0 rfl
    have c1 : w1.cell? ⟨w.heap.size, 1, none⟩ = some (.int .i64 v.n) := Mm.cellOf K0 rfl
    have c2 : w1.cell? ⟨w.heap.size, 2, none⟩ = some (.float .f64 v.f) := Mm.cellOf K0 rfl
    have c3 : w1.cell? ⟨w.heap.size, 3, none⟩ = some (.string v.s) := Mm.cellOf K0 rfl
    have haf := after_any v w1 (HV.out.1.below HB.out) HV.out.2
    rw [hg] at haf
    have HA := Mm.hid haf
    clear haf hb K0 HC hg
    go_wp2_with fail
    refine HA.out.mono ?_
    rintro e w2 ⟨rfl, hb2⟩
    have HB2 := Mm.hid (Vl.btr HB.out hb2)
    have HN := Mm.hid (between_any (Mm.hid (H.out.below HB2.out)) hN (HV.out.1.below HB2.out) (Ky.entB v 0) (Ky.aftB v))
    clear hb2 c0 c1 c2 c3 HA HB
    go_wp2_with fail
    refine HN.out.mono ?_
    rintro e w3 ⟨v1, v2, rfl, hT⟩
    go_wp2_with fail
    go_ret2
    exact ⟨v1, v2, rfl, hT.from HB2.out⟩
  · have h0' : E ≠ 0 := by rcases h0 with e | e <;> rw [e] <;> decide
    rw [if_neg h0', if_neg h0']
    have hbq : (E == 0) = false := beq_eq_false_iff_ne.2 h0'
    clear h0 h0' hE
    go_enter Tryz.func15, Tryz.ntmps15
    go_wp2_with fail
    refine HC.out.mono ?_
    rintro e w1 ⟨rfl, hb⟩
    have HB := Mm.hid (Vl.btr (Vl.bal (Below.refl w.heap.size w) _) hb)
    clear hb HC
    go_wp2_with fail
    go_ret2
    exact ⟨_, _, rfl, Ix.Tw.nil HB.out⟩

set_option maxRecDepth 100000 in
set_option maxHeartbeats 4000000 in
theorem irange_any (H : Hid (Ix.Iq h w tag b p s N)) (hN : N ≤ 4900) (v x : Vl.V) (hM : Ky.Mx w) (hv : Ky.In v) (hx : Ky.In x) :
    Calls Tryz.prog 17 #[.pointer (some ⟨b, 0, none⟩), .agg #[.int .i64 v.k, .int .i64 v.n, .float .f64 v.f, .string v.s], .agg #[.int .i64 x.k, .int .i64 x.n, .float .f64 x.f, .string x.s]] w fun e w' => ∃ v1 v2, e = .returned (.tuple #[v1, v2]) ∧ Ix.Tw w w' v1 v2 (Ix.rangeT s v x) (Ix.rangeL s v x) := by
  obtain ⟨wA, hA⟩ : ∃ x, x = w.alloc (.cells #[.int .i64 v.k, .int .i64 v.n, .float .f64 v.f, .string v.s] 34) := ⟨_, rfl⟩
  obtain ⟨wB, hB⟩ : ∃ y, y = wA.alloc (.cells #[.int .i64 x.k, .int .i64 x.n, .float .f64 x.f, .string x.s] 34) := ⟨_, rfl⟩
  have sA : wA.heap.size = w.heap.size + 1 := by rw [hA]; simp
  have HBB : Hid (Below w.heap.size w wB) := Mm.hid (by rw [hB, hA]; exact Vl.bal (Vl.bal (Below.refl _ _) _) _)
  have HZ : Hid (wB.heap[w.heap.size + 1]? = some (.cells #[.int .i64 x.k, .int .i64 x.n, .float .f64 x.f, .string x.s] 34 (0, 0))) := Mm.hid (by rw [hB]; exact Mm.newAt _ _ sA.symm)
  have HC := Mm.hid (least_any v wB (hM.below HBB.out) hv)
  have HV := Mm.hid (And.intro hM hx)
  rw [hB, hA] at HC
  have HBx : Hid (∀ w1 : World, Below ((w.alloc (.cells #[.int .i64 v.k, .int .i64 v.n, .float .f64 v.f, .string v.s] 34)).alloc (.cells #[.int .i64 x.k, .int .i64 x.n, .float .f64 x.f, .string x.s] 34)).heap.size ((w.alloc (.cells #[.int .i64 v.k, .int .i64 v.n, .float .f64 v.f, .string v.s] 34)).alloc (.cells #[.int .i64 x.k, .int .i64 x.n, .float .f64 x.f, .string x.s] 34)) w1 → Below w.heap.size w w1 ∧ w1.heap[w.heap.size + 1]? = some (.cells #[.int .i64 x.k, .int .i64 x.n, .float .f64 x.f, .string x.s] 34 (0, 0))) := Mm.hid (fun w1 hb => by
    rw [← hA, ← hB] at hb
    exact ⟨Vl.btr HBB.out hb, (hb.block _ (Mm.heapLt HZ.out)).trans HZ.out⟩)
  clear hA hB sA HBB HZ hM hv hx
  clear wA wB
  obtain ⟨E, hE⟩ : ∃ E, Ky.entE v 0 = E := ⟨_, rfl⟩
  obtain ⟨E2, hE2⟩ : ∃ E, Ky.entE x 0 = E := ⟨_, rfl⟩
  have hc3 := Ix.entE_cases v 0
  have hc4 := Ix.entE_cases x 0
  unfold Ix.rangeT Ix.rangeL
  rw [hE] at hc3 HC ⊢
  rw [hE2] at hc4 ⊢
  rcases hc3 with rfl | h0
  · have h1 : ∀ w1, Below w.heap.size w w1 → Calls Tryz.prog 38 #[.agg #[.int .i64 x.k, .int .i64 x.n, .float .f64 x.f, .string x.s]] w1 fun e w' => e = .returned (.tuple #[.string (Ky.entB x 0), .int .i64 E2]) ∧ Below w1.heap.size w1 w' := fun w1 hb1 => by
      have := least_any x w1 (HV.out.1.below hb1) HV.out.2
      rw [hE2] at this
      exact this
    have HL := Mm.hid h1
    clear h1 hE hE2
    rcases hc4 with rfl | h2
    · rw [if_pos ⟨rfl, rfl⟩, if_pos ⟨rfl, rfl⟩]
      go_enter Tryz.func17, Tryz.ntmps17
      go_wp2_with fail
      refine HC.out.mono ?_
      rintro e w1 ⟨rfl, hb⟩
      obtain ⟨hb1, K0⟩ := HBx.out w1 hb
      have HB := Mm.hid hb1
      have c0 : w1.cell? ⟨w.heap.size + 1, 0, none⟩ = some (.int .i64 x.k) := Mm.cellOf K0 rfl
      have c1 : w1.cell? ⟨w.heap.size + 1, 1, none⟩ = some (.int .i64 x.n) := Mm.cellOf K0 rfl
      have c2 : w1.cell? ⟨w.heap.size + 1, 2, none⟩ = some (.float .f64 x.f) := Mm.cellOf K0 rfl
      have c3 : w1.cell? ⟨w.heap.size + 1, 3, none⟩ = some (.string x.s) := Mm.cellOf K0 rfl
      have HA := Mm.hid (HL.out w1 hb1)
      clear hb hb1 K0 HC HL HBx
      go_wp2_with fail
      refine HA.out.mono ?_
      rintro e w2 ⟨rfl, hb2⟩
      have HB2 := Mm.hid (Vl.btr HB.out hb2)
      have HN := Mm.hid (between_any (Mm.hid (H.out.below HB2.out)) hN (HV.out.1.below HB2.out) (Ky.entB v 0) (Ky.entB x 0))
      clear hb2 c0 c1 c2 c3 HA HB
      go_wp2_with fail
      refine HN.out.mono ?_
      rintro e w3 ⟨v1, v2, rfl, hT⟩
      go_wp2_with fail
      go_ret2
      exact ⟨v1, v2, rfl, hT.from HB2.out⟩
    · have h0' : E2 ≠ 0 := by rcases h2 with e | e <;> rw [e] <;> decide
      rw [if_neg (fun h => h0' h.2), if_neg (fun h => h0' h.2)]
      have hbq : (E2 == 0) = false := beq_eq_false_iff_ne.2 h0'
      clear h2 h0'
      go_enter Tryz.func17, Tryz.ntmps17
      go_wp2_with fail
      refine HC.out.mono ?_
      rintro e w1 ⟨rfl, hb⟩
      obtain ⟨hb1, K0⟩ := HBx.out w1 hb
      have HB := Mm.hid hb1
      have c0 : w1.cell? ⟨w.heap.size + 1, 0, none⟩ = some (.int .i64 x.k) := Mm.cellOf K0 rfl
      have c1 : w1.cell? ⟨w.heap.size + 1, 1, none⟩ = some (.int .i64 x.n) := Mm.cellOf K0 rfl
      have c2 : w1.cell? ⟨w.heap.size + 1, 2, none⟩ = some (.float .f64 x.f) := Mm.cellOf K0 rfl
      have c3 : w1.cell? ⟨w.heap.size + 1, 3, none⟩ = some (.string x.s) := Mm.cellOf K0 rfl
      have HA := Mm.hid (HL.out w1 hb1)
      clear hb hb1 K0 HC HL HBx
      go_wp2_with fail
      refine HA.out.mono ?_
      rintro e w2 ⟨rfl, hb2⟩
      have HB2 := Mm.hid (Vl.btr HB.out hb2)
      clear hb2 c0 c1 c2 c3 HA HB
      go_wp2_with fail
      go_ret2
      exact ⟨_, _, rfl, Ix.Tw.nil HB2.out⟩
  · have h0' : E ≠ 0 := by rcases h0 with e | e <;> rw [e] <;> decide
    rw [if_neg (fun h => h0' h.1), if_neg (fun h => h0' h.1)]
    have hbq : (E == 0) = false := beq_eq_false_iff_ne.2 h0'
    clear h0 h0' hE hE2 hc4
    go_enter Tryz.func17, Tryz.ntmps17
    go_wp2_with fail
    refine HC.out.mono ?_
    rintro e w1 ⟨rfl, hb⟩
    have HB := Mm.hid (HBx.out w1 hb).1
    clear hb HC HBx
    go_wp2_with fail
    go_ret2
    exact ⟨_, _, rfl, Ix.Tw.nil HB.out⟩

set_option maxRecDepth 100000 in
set_option maxHeartbeats 2000000 in
theorem ifind_nil (v : Vl.V) (hM : Ky.Mx w) (hv : Ky.In v) :
    Calls Tryz.prog 15 #[.pointer none, .agg #[.int .i64 v.k, .int .i64 v.n, .float .f64 v.f, .string v.s]] w fun e w' => e = .returned (.tuple #[.slice none 0 0, .slice none 0 0]) ∧ Below w.heap.size w w' := by
  have HM := Mm.hid (hM.below (Vl.bal (Below.refl _ _) (.cells #[.int .i64 v.k, .int .i64 v.n, .float .f64 v.f, .string v.s] 34)))
  have HC := Mm.hid (least_any v _ HM.out hv)
  have HV := Mm.hid (And.intro hM hv)
  clear HM hM hv
  obtain ⟨E, hE⟩ : ∃ E, Ky.entE v 0 = E := ⟨_, rfl⟩
  have hc3 := Ix.entE_cases v 0
  rw [hE] at hc3 HC
  rcases hc3 with rfl | h0
  · have hg : Ky.ofE v = 0 := by unfold Ky.ofE; rw [Ix.entE_least.1 hE]; rfl
    clear hE
    go_enter Tryz.func15, Tryz.ntmps15
    go_wp2_with fail
    refine HC.out.mono ?_
    rintro e w1 ⟨rfl, hb⟩
    have HB := Mm.hid (Vl.btr (Vl.bal (Below.refl w.heap.size w) _) hb)
    have K0 : w1.heap[w.heap.size]? = some (.cells #[.int .i64 v.k, .int .i64 v.n, .float .f64 v.f, .string v.s] 34 (0, 0)) := (hb.block _ (by simp)).trans (Mm.newAt w _ rfl)
    have c0 : w1.cell? ⟨w.heap.size, 0, none⟩ = some (.int .i64 v.k) := Mm.cellOf K0 rfl
    have c1 : w1.cell? ⟨w.heap.size, 1, none⟩ = some (.int .i64 v.n) := Mm.cellOf K0 rfl
    have c2 : w1.cell? ⟨w.heap.size, 2, none⟩ = some (.float .f64 v.f) := Mm.cellOf K0 rfl
    have c3 : w1.cell? ⟨w.heap.size, 3, none⟩ = some (.string v.s) := Mm.cellOf K0 rfl
    have haf := after_any v w1 (HV.out.1.below HB.out) HV.out.2
    rw [hg] at haf
    have HA := Mm.hid haf
    clear haf hb K0 HC hg
    go_wp2_with fail
    refine HA.out.mono ?_
    rintro e w2 ⟨rfl, hb2⟩
    have HB2 := Mm.hid (Vl.btr HB.out hb2)
    have HN := Mm.hid (between_nil (Ky.entB v 0) (Ky.aftB v) w2)
    clear hb2 c0 c1 c2 c3 HA HB
    go_wp2_with fail
    refine HN.out.mono ?_
    rintro e w3 ⟨rfl, hT⟩
    go_wp2_with fail
    go_ret2
    exact ⟨rfl, Vl.btr HB2.out hT⟩
  · have h0' : E ≠ 0 := by rcases h0 with e | e <;> rw [e] <;> decide
    have hbq : (E == 0) = false := beq_eq_false_iff_ne.2 h0'
    clear h0 h0' hE
    go_enter Tryz.func15, Tryz.ntmps15
    go_wp2_with fail
    refine HC.out.mono ?_
    rintro e w1 ⟨rfl, hb⟩
    have HB := Mm.hid (Vl.btr (Vl.bal (Below.refl w.heap.size w) _) hb)
    clear hb HC
    go_wp2_with fail
    go_ret2
    exact ⟨rfl, HB.out⟩

set_option maxRecDepth 100000 in
set_option maxHeartbeats 4000000 in
theorem irange_nil (v x : Vl.V) (hM : Ky.Mx w) (hv : Ky.In v) (hx : Ky.In x) :
    Calls Tryz.prog 17 #[.pointer none, .agg #[.int .i64 v.k, .int .i64 v.n, .float .f64 v.f, .string v.s], .agg #[.int .i64 x.k, .int .i64 x.n, .float .f64 x.f, .string x.s]] w fun e w' => e = .returned (.tuple #[.slice none 0 0, .slice none 0 0]) ∧ Below w.heap.size w w' := by
  obtain ⟨wA, hA⟩ : ∃ x, x = w.alloc (.cells #[.int .i64 v.k, .int .i64 v.n, .float .f64 v.f, .string v.s] 34) := ⟨_, rfl⟩
  obtain ⟨wB, hB⟩ : ∃ y, y = wA.alloc (.cells #[.int .i64 x.k, .int .i64 x.n, .float .f64 x.f, .string x.s] 34) := ⟨_, rfl⟩
  have sA : wA.heap.size = w.heap.size + 1 := by rw [hA]; simp
  have HBB : Hid (Below w.heap.size w wB) := Mm.hid (by rw [hB, hA]; exact Vl.bal (Vl.bal (Below.refl _ _) _) _)
  have HZ : Hid (wB.heap[w.heap.size + 1]? = some (.cells #[.int .i64 x.k, .int .i64 x.n, .float .f64 x.f, .string x.s] 34 (0, 0))) := Mm.hid (by rw [hB]; exact Mm.newAt _ _ sA.symm)
  have HC := Mm.hid (least_any v wB (hM.below HBB.out) hv)
  have HV := Mm.hid (And.intro hM hx)
  rw [hB, hA] at HC
  have HBx : Hid (∀ w1 : World, Below ((w.alloc (.cells #[.int .i64 v.k, .int .i64 v.n, .float .f64 v.f, .string v.s] 34)).alloc (.cells #[.int .i64 x.k, .int .i64 x.n, .float .f64 x.f, .string x.s] 34)).heap.size ((w.alloc (.cells #[.int .i64 v.k, .int .i64 v.n, .float .f64 v.f, .string v.s] 34)).alloc (.cells #[.int .i64 x.k, .int .i64 x.n, .float .f64 x.f, .string x.s] 34)) w1 → Below w.heap.size w w1 ∧ w1.heap[w.heap.size + 1]? = some (.cells #[.int .i64 x.k, .int .i64 x.n, .float .f64 x.f, .string x.s] 34 (0, 0))) := Mm.hid (fun w1 hb => by
    rw [← hA, ← hB] at hb
    exact ⟨Vl.btr HBB.out hb, (hb.block _ (Mm.heapLt HZ.out)).trans HZ.out⟩)
  clear hA hB sA HBB HZ hM hv hx
  clear wA wB
  obtain ⟨E, hE⟩ : ∃ E, Ky.entE v 0 = E := ⟨_, rfl⟩
  obtain ⟨E2, hE2⟩ : ∃ E, Ky.entE x 0 = E := ⟨_, rfl⟩
  have hc3 := Ix.entE_cases v 0
  have hc4 := Ix.entE_cases x 0
  rw [hE] at hc3 HC
  rw [hE2] at hc4
  rcases hc3 with rfl | h0
  · have h1 : ∀ w1, Below w.heap.size w w1 → Calls Tryz.prog 38 #[.agg #[.int .i64 x.k, .int .i64 x.n, .float .f64 x.f, .string x.s]] w1 fun e w' => e = .returned (.tuple #[.string (Ky.entB x 0), .int .i64 E2]) ∧ Below w1.heap.size w1 w' := fun w1 hb1 => by
      have := least_any x w1 (HV.out.1.below hb1) HV.out.2
      rw [hE2] at this
      exact this
    have HL := Mm.hid h1
    clear h1 hE hE2
    rcases hc4 with rfl | h2
    · go_enter Tryz.func17, Tryz.ntmps17
      go_wp2_with fail
      refine HC.out.mono ?_
      rintro e w1 ⟨rfl, hb⟩
      obtain ⟨hb1, K0⟩ := HBx.out w1 hb
      have HB := Mm.hid hb1
      have c0 : w1.cell? ⟨w.heap.size + 1, 0, none⟩ = some (.int .i64 x.k) := Mm.cellOf K0 rfl
      have c1 : w1.cell? ⟨w.heap.size + 1, 1, none⟩ = some (.int .i64 x.n) := Mm.cellOf K0 rfl
      have c2 : w1.cell? ⟨w.heap.size + 1, 2, none⟩ = some (.float .f64 x.f) := Mm.cellOf K0 rfl
      have c3 : w1.cell? ⟨w.heap.size + 1, 3, none⟩ = some (.string x.s) := Mm.cellOf K0 rfl
      have HA := Mm.hid (HL.out w1 hb1)
      clear hb hb1 K0 HC HL HBx
      go_wp2_with fail
      refine HA.out.mono ?_
      rintro e w2 ⟨rfl, hb2⟩
      have HB2 := Mm.hid (Vl.btr HB.out hb2)
      have HN := Mm.hid (between_nil (Ky.entB v 0) (Ky.entB x 0) w2)
      clear hb2 c0 c1 c2 c3 HA HB
      go_wp2_with fail
      refine HN.out.mono ?_
      rintro e w3 ⟨rfl, hT⟩
      go_wp2_with fail
      go_ret2
      exact ⟨rfl, Vl.btr HB2.out hT⟩
    · have h0' : E2 ≠ 0 := by rcases h2 with e | e <;> rw [e] <;> decide
      have hbq : (E2 == 0) = false := beq_eq_false_iff_ne.2 h0'
      clear h2 h0'
      go_enter Tryz.func17, Tryz.ntmps17
      go_wp2_with fail
      refine HC.out.mono ?_
      rintro e w1 ⟨rfl, hb⟩
      obtain ⟨hb1, K0⟩ := HBx.out w1 hb
      have HB := Mm.hid hb1
      have c0 : w1.cell? ⟨w.heap.size + 1, 0, none⟩ = some (.int .i64 x.k) := Mm.cellOf K0 rfl
      have c1 : w1.cell? ⟨w.heap.size + 1, 1, none⟩ = some (.int .i64 x.n) := Mm.cellOf K0 rfl
      have c2 : w1.cell? ⟨w.heap.size + 1, 2, none⟩ = some (.float .f64 x.f) := Mm.cellOf K0 rfl
      have c3 : w1.cell? ⟨w.heap.size + 1, 3, none⟩ = some (.string x.s) := Mm.cellOf K0 rfl
      have HA := Mm.hid (HL.out w1 hb1)
      clear hb hb1 K0 HC HL HBx
      go_wp2_with fail
      refine HA.out.mono ?_
      rintro e w2 ⟨rfl, hb2⟩
      have HB2 := Mm.hid (Vl.btr HB.out hb2)
      clear hb2 c0 c1 c2 c3 HA HB
      go_wp2_with fail
      go_ret2
      exact ⟨rfl, HB2.out⟩
  · have h0' : E ≠ 0 := by rcases h0 with e | e <;> rw [e] <;> decide
    have hbq : (E == 0) = false := beq_eq_false_iff_ne.2 h0'
    clear h0 h0' hE hE2 hc4
    go_enter Tryz.func17, Tryz.ntmps17
    go_wp2_with fail
    refine HC.out.mono ?_
    rintro e w1 ⟨rfl, hb⟩
    have HB := Mm.hid (HBx.out w1 hb).1
    clear hb HC HBx
    go_wp2_with fail
    go_ret2
    exact ⟨rfl, HB.out⟩

set_option maxRecDepth 100000 in
set_option maxHeartbeats 2000000 in
theorem drop_nil (v : Vl.V) (n : Int) (w : World) :
    Calls Tryz.prog 13 #[.pointer none, .agg #[.int .i64 v.k, .int .i64 v.n, .float .f64 v.f, .string v.s], .int .i64 n] w fun e w' => e = .returned (.tuple #[.int .i64 0, .agg #[.int .i64 0, .int .i64 0], .int .i64 1]) ∧ Below w.heap.size w w' := by
  have HC := Mm.hid (ientry_nil v n ((w.alloc (.cells #[.int .i64 v.k, .int .i64 v.n, .float .f64 v.f, .string v.s] 34)).alloc (.cells #[.int .i64 0, .int .i64 0] 38)))
  have HB0 : Hid (Below w.heap.size w ((w.alloc (.cells #[.int .i64 v.k, .int .i64 v.n, .float .f64 v.f, .string v.s] 34)).alloc (.cells #[.int .i64 0, .int .i64 0] 38))) := Mm.hid (Vl.bal (Vl.bal (Below.refl _ _) _) _)
  have HZ : Hid (((w.alloc (.cells #[.int .i64 v.k, .int .i64 v.n, .float .f64 v.f, .string v.s] 34)).alloc (.cells #[.int .i64 0, .int .i64 0] 38)).heap[w.heap.size + 1]? = some (.cells #[.int .i64 0, .int .i64 0] 38 (0, 0))) := Mm.hid (Mm.newAt _ _ (by simp))
  go_enter Tryz.func13, Tryz.ntmps13
  go_wp2_with fail
  refine HC.out.mono ?_
  rintro e w1 ⟨rfl, hb⟩
  have HB := Mm.hid (Vl.btr HB0.out hb)
  have hz := (hb.block _ (Mm.heapLt HZ.out)).trans HZ.out
  have c0 : w1.cell? ⟨w.heap.size + 1, 0, none⟩ = some (.int .i64 0) := Mm.cellOf hz rfl
  have c1 : w1.cell? ⟨w.heap.size + 1, 1, none⟩ = some (.int .i64 0) := Mm.cellOf hz rfl
  have f0 : w1.frozen? ⟨w.heap.size + 1, 0, none⟩ = false := by simp [World.frozen?, hz]
  have f1 : w1.frozen? ⟨w.heap.size + 1, 1, none⟩ = false := by simp [World.frozen?, hz]
  clear hb HC HB0 HZ hz
  go_wp2_with fail
  refine bodyPost_ret (v := .tuple #[.int .i64 0, .agg #[.int .i64 0, .int .i64 0], .int .i64 1]) (by simp [results, Tryz.results13, go_sem, c0, c1]) rfl ⟨rfl, ?_⟩
  exact (HB.out.setCell (Nat.le_succ _) _).setCell (Nat.le_succ _) _

end Go.Proofs.YtjnaafgiokdcbaaGreatDoor
