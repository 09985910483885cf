/- What lies between two keys. -/
import Derived.Test.YtjnaafgiokdcbaaGreatDoorI1
import Derived.Test.YtjnaafgiokdcbaaGreatDoorI2
namespace Go.Proofs.YtjnaafgiokdcbaaGreatDoor
open Go.RowKit Go.Shelf
attribute [local go_sem] Oper.semAt_some
attribute [local go_sem] Fl.run_store_float

set_option maxRecDepth 100000 in
set_option maxHeartbeats 2000000 in
theorem splitc_nil (n : Nat) (l Bs : Nat) (J : List ByteArray → World → Prop) (w0 : World) (hBs : w0.cell? ⟨Bs, 0, none⟩ = some (.slice none 0 0)) (h0 : J [] w0) :
    CallsIn Fence.wide n Tryz.prog 83 #[.func (.yield l) #[] #[], .pointer (some ⟨Bs, 0, none⟩)] w0 fun e W' => (∃ v, e = .returned v) ∧ J [] W' := by
  refine callsIn_of_wp Tryz.func83 rfl trivial ?_ rfl
  simp only [Tryz.ntmps83, List.size_toArray, List.length_cons, List.length_nil, Nat.reduceAdd, Nat.reduceSub, Array.replicate_succ, Array.replicate_zero, List.push_toArray, List.append_toArray, List.nil_append, List.cons_append]
  gi_wp2
  gi_loopw [10] (fun i wr => i = .int .i64 0 ∧ J [] wr) (fun _ _ => 0)
  case atStart => exact ⟨rfl, h0⟩
  case round =>
    obtain ⟨rfl, hJs⟩ := hrel
    gi_wp2
    go_end0
    exact ⟨⟨_, rfl⟩, hJs⟩

theorem splitc_stops (n : Nat) (hn : 1 ≤ n) (Bs n1 B0 base : Nat) (v1 : Value) (keys : List ByteArray) (hlen : keys.length ≤ 1000000) (hsz : ∀ k ∈ keys, k.size ≤ 50000) (w : World) (hBs : Bs < w.heap.size) (hc : w.cell? ⟨Bs, 0, none⟩ = some v1) (hV : Ix.Vw base n1 B0 v1 keys w) :
    SeqStopsK Fence.wide n Tryz.prog 83 #[.pointer (some ⟨Bs, 0, none⟩)] Ix.encE (Ix.Kq n1 B0) (fun ys => ys = keys) (fun pre => pre <+: keys) keys.length w := fun l J Jx W hW hJ _ hY h0 => by
  have hc' := (hW.cell (p := ⟨Bs, 0, none⟩) hBs).trans hc
  have hV' := hV.kq (Ix.Kq.below hW hV.n)
  by_cases hk : keys = []
  · subst hk
    obtain ⟨p, c, e1, _, _, _, _⟩ := hV.own.shape
    rcases hV.own.2 with ⟨e, _⟩ | ⟨g, cp, cur, e, _⟩
    · rw [e] at hc'
      exact (splitc_nil n l Bs J W hc' h0).mono fun e W' ⟨he, hj⟩ => ⟨he, .inl ⟨_, rfl, hj⟩⟩
    · subst e
      exact splitc_in n hn l Bs n1 B0 base g cp [] hlen hsz J Jx W hJ hY hc' (Mm.hid hV') h0
  · obtain ⟨g, n', c, e1, e2, _⟩ := hV.own.nonnil (by simpa [Lf.strs] using hk)
    subst e1
    have e3 : n' = keys.length := by rw [e2]; exact Lf.strs_len keys
    subst e3
    exact splitc_in n hn l Bs n1 B0 base g c keys hlen hsz J Jx W hJ hY hc' (Mm.hid hV') h0

set_option maxHeartbeats 1000000 in
theorem splitf_any (a : Option Addr) (len cap : Nat) (w : World) :
    Calls Tryz.prog 63 #[.slice a len cap] w fun e w' => e = .returned (.func (.func 83) #[] #[.pointer (some ⟨w.heap.size, 0, none⟩)]) ∧ w' = w.alloc (.cells #[.slice a len cap] 89) := by
  go_enter Tryz.func63, Tryz.ntmps63
  go_wp2_with fail
  go_ret
  exact ⟨rfl, rfl⟩

namespace Ix
theorem row_base {w : World} {b b' : Nat} {e : TypeId} {sz k : Nat} {v : Value} {xs : List Value} (h : w.ownsRow b e sz v k xs) (hb : b' ≤ b) : w.ownsRow b' e sz v k xs := by
  obtain ⟨h0, h1 | ⟨g, cap, cur, e1, e2, e3⟩⟩ := h
  · exact ⟨h0, Or.inl h1⟩
  · exact ⟨h0, Or.inr ⟨g, cap, cur, e1, Nat.le_trans hb e2, e3⟩⟩
theorem row_ge {w : World} {b g : Nat} {e : TypeId} {sz k : Nat} {v : Value} {xs : List Value} (h : w.ownsRow b e sz v k xs) (hg : v.ownBlock = some g) : b ≤ g := by
  obtain ⟨h0, ⟨h1, _⟩ | ⟨g', cap, cur, e1, e2, e3⟩⟩ := h
  · subst h1; cases hg
  · subst e1; cases hg; exact e2
theorem row_shape {w : World} {b : Nat} {e : TypeId} {sz k : Nat} {v : Value} {xs : List Value} (h : w.ownsRow b e sz v k xs) : ∃ p c, v = .slice p k c := by
  obtain ⟨h0, ⟨h1, h2⟩ | ⟨g', cap, cur, e1, e2, e3⟩⟩ := h
  · exact ⟨none, 0, by rw [h1, h2]⟩
  · exact ⟨_, _, e1⟩
end Ix

variable {h : Nat} {w : World} {tag : Nat → Option Lf.Tg} {b p : Nat} {s : Lf.S} {N : Nat}

set_option maxRecDepth 100000 in
set_option maxHeartbeats 4000000 in
theorem between_any (H : Hid (Ix.Iq h w tag b p s N)) (hN : N ≤ 4900) (hM : Ky.Mx w) (frm tto : ByteArray) :
    Calls Tryz.prog 40 #[.pointer (some ⟨b, 0, none⟩), .string frm, .string tto] w fun e w' => ∃ v1 v2, e = .returned (.tuple #[v1, v2]) ∧ Ix.Tw w w' v1 v2 ((Lf.spanK s frm tto).map Ix.tidOf) (Lf.spanL s frm tto) := by
  obtain ⟨i0, hi, hz0, hz1, hz2⟩ := Mm.int1
  have HQ := Mm.hid (H.out.below ((Below.refl _ w).alloc (Nat.le_refl _) (.cells #[.slice none 0 0] 44)))
  have hc := HQ.out.cell
  have hr := range_q (Mm.hid HQ.out.q) hN frm tto
  have hIv := H.out.q.2.1
  have hK1 : (Lf.spanK s frm tto).length ≤ 1000000 := by
    have := Ix.spanK_cnt hIv frm tto
    have := H.out.q.2.2.2
    omega
  have hK2 : ∀ k ∈ Lf.spanK s frm tto, k.size ≤ 50000 := fun k hk => by
    have := Ix.spanK_size hIv hk
    omega
  have HK := Mm.hid (And.intro hK1 hK2)
  generalize Lf.spanK s frm tto = K at hr HK ⊢
  generalize Lf.spanL s frm tto = Lv at hr ⊢
  have HR := Mm.hid hr
  clear hr hK1 hK2 hIv
  refine (callsIn_wide (n := 3)).1 ?_
  refine callsIn_of_wp_marks Tryz.func40 rfl trivial ?_ rfl
  simp only [Tryz.ntmps40, List.size_toArray, List.length_cons, List.length_nil, Nat.reduceAdd, Nat.reduceSub, Array.replicate_succ, Array.replicate_zero, List.push_toArray, List.append_toArray, List.nil_append, List.cons_append]
  gi_wp2_with (refine ⟨trivial, ?_⟩; gi_at_call 62; refine (callsIn_wide.2 HR.out).mono ?_; rintro e w3 ⟨v1, v2, rfl, hT⟩; obtain ⟨p1, c1, e1, _, _, _, _⟩ := hT.o1.shape; obtain ⟨p2, c2, e2, _, _, _, _⟩ := hT.o2.shape; obtain ⟨nK, hnK⟩ : ∃ n, n = (Lf.strs K).length := ⟨_, rfl⟩; obtain ⟨nL, hnL⟩ : ∃ n, n = (Mm.nts Lv).length := ⟨_, rfl⟩; rw [← hnK] at e1; rw [← hnL] at e2; subst e1; subst e2; have HT := Mm.hid hT; clear hT HR hnK hnL)
  gi_wp2_with (refine ⟨trivial, ?_⟩; gi_at_call 63; refine (callsIn_wide.2 (splitf_any _ _ _ _)).mono ?_; rintro e w4 ⟨rfl, rfl⟩)
  have hb0 : (w.alloc (.cells #[.slice none 0 0] 44)).heap.size = w.heap.size + 1 := by simp
  have o1 := HT.out.o1
  have o2 := HT.out.o2
  rw [hb0] at o1 o2
  have hs3 : w.heap.size + 1 ≤ w3.heap.size := by have := HT.out.bel.size; rw [hb0] at this; exact this
  have hBel3 : Below w.heap.size w w3 := ((Below.refl _ w).alloc (Nat.le_refl _) _).trans (HT.out.bel.mono (by rw [hb0]; omega))
  have hBel4 : Below w.heap.size w (w3.alloc (.cells #[.slice p1 nK c1] 89)) := hBel3.alloc (by omega) _
  have bO3 : Boxed w3 w.heap.size 44 (.slice none 0 0) := (HT.out.bel.block _ (by rw [hb0]; omega)).trans (Boxed.new w _ _)
  have hVw : Ix.Vw (w.heap.size + 1) w3.heap.size w.heap.size (.slice p1 nK c1) K (w3.alloc (.cells #[.slice p1 nK c1] 89)) :=
    ⟨o1.below ((Below.refl _ _).alloc (Nat.le_refl _) _), (fun g hg => ⟨(o1.lt hg).1, by have := (o1.lt hg).2; omega⟩), (hM.below hBel4), ⟨by have := hM.lt; omega, by have := hM.lt; omega⟩, by simp⟩
  have HV := Mm.hid hVw
  clear hVw
  have hcs : (w3.alloc (.cells #[.slice p1 nK c1] 89)).cell? ⟨w3.heap.size, 0, none⟩ = some (.slice p1 nK c1) := (Boxed.new w3 _ _).cell
  refine wpIn_rangeFunc_ownG rfl (by omega) (gf := 83) (lb := #[.pointer (some ⟨w3.heap.size, 0, none⟩)]) rfl trivial (enters_of Tryz.func83 (by kernel_rfl) rfl)
    (splitc_stops (3 - 1) (by omega) w3.heap.size w3.heap.size w.heap.size (w.heap.size + 1) (.slice p1 nK c1) K HK.out.1 HK.out.2 (w3.alloc (.cells #[.slice p1 nK c1] 89)) (by simp) hcs HV.out)
    (fun h k => h.trans k) (Ix.Kq.put (w := w3.alloc (.cells #[.slice p1 nK c1] 89)) (by simp)) (Below.refl _ _) (fun _ => rfl)
    (fun pre W => (∃ v, Boxed W w.heap.size 44 v ∧ W.ownsRow w3.heap.size 3 1 v pre.length (Mm.nts (pre.map Ix.tidOf)) ∧ True) ∧ (Below w.heap.size w W ∧ Ix.Kq w3.heap.size w.heap.size w3 W))
    (fun _ _ _ => False)
    (OwnFrom.and (Own.from (holdsRow_own w3.heap.size w.heap.size 44 3 1 (fun pre : List ByteArray => pre.length) (fun pre => Mm.nts (pre.map Ix.tidOf)) (fun _ _ => True)) _) (OwnFrom.and (ownFrom_below (Nat.le_refl _) (by simp; omega)) (fun _ A B row hs hg hr => hs.trans ⟨hg.os, hg.tape, hg.output, hg.size, fun b hb _ => hg.block b (Nat.lt_of_lt_of_le hb hs.size) (fun e => by have := (hr b e.symm).1; simp at this; omega)⟩)))
    (fun _ _ _ _ _ hs _ _ => hs)
    ⟨⟨_, bO3.alloc _, World.ownsRow_nil _ _ _ _, trivial⟩, hBel4, Ix.Kq.below ((Below.refl _ _).alloc (Nat.le_refl _) _) (Nat.le_refl _)⟩
    (fun x => { tmps := #[.pointer (some ⟨b, 0, none⟩), .string frm, .string tto, undef, undef, undef,
          .pointer (some ⟨w.heap.size, 0, none⟩), .slice p2 nL c2,
          .slice p1 nK c1, undef, .int .i64 ((Ix.tidV (Ix.optOf x) : Nat) : Int), .pointer (some ⟨b, 0, none⟩),
          .bool false,
          .tuple #[.slice p1 nK c1, .slice p2 nL c2],
          .pointer (some ⟨b, 0, none⟩), .pointer (some ⟨b, 0, none⟩),
          .pointer (some ⟨b, 0, none⟩), .pointer (some ⟨p, 0, none⟩),
          .string frm, .string tto,
          .tuple #[.slice p1 nK c1, .slice p2 nL c2],
          .slice p1 nK c1, .slice p2 nL c2,
          .slice p1 nK c1,
          .func (.func 83) #[] #[.pointer (some ⟨w3.heap.size, 0, none⟩)],
          .agg #[.int .i64 (Ix.vO (Ix.optOf x)).k, .int .i64 (Ix.vO (Ix.optOf x)).n, .float .f64 (Ix.vO (Ix.optOf x)).f, .string (Ix.vO (Ix.optOf x)).s], .int .i64 ((Ix.tidV (Ix.optOf x) : Nat) : Int), undef,
          undef, undef, undef, undef, undef], defers := [] }) ?assign ?body ?done ?stop
  case assign =>
    intro l x W K hK
    unfold Ix.encE
    gi_wp2
    exact hK
  case body =>
    rintro l pre x W ⟨⟨v, hv, hrow, _⟩, hB, hKq⟩ hlt
    have hcv := hv.cell
    have hkl := HK.out.1
    have hWs := hKq.size
    have hBs := hB.size
    gi_wp2_with (gi_at_builtin; refine wpListIn_append_own _ rfl _ _ 44 rfl w3.heap.size 3 i0 (.int .i64 0) 1 8 Tryz.underlying44 hi hz0 hz1 hz2 rfl (by decide) _ _ _ rfl (hrow.alloc _) ⟨W.heap.size, 0, none⟩ 1 1 [.int .i64 ((Ix.tidV (Ix.optOf x) : Nat) : Int)] rfl rfl (cell_one_new _ _ _) (by simp [Value.oneCell']) (by unfold maxLen; omega) (by omega) (by simp; omega) ?_; intro v' w1 hown' hgrow _; obtain ⟨g', cap', rfl⟩ := ownsRow_succ hown'; obtain ⟨hv1, hv2, hr2, hk2, hb2⟩ := hv.appended (n₀ := w.heap.size) (by decide) (Ix.row_base hrow (by omega)) hB.size (Nat.le_refl _) (Ix.row_base hown' (by omega)) hgrow; have hc1 := hv1.cell; have hf1 := hv1.frozen)
    have hk5 : Ix.Kq w3.heap.size w.heap.size W (w1.setCell ⟨w.heap.size, 0, none⟩ (.slice (some ⟨g', 0, none⟩) (pre.length + 1) cap')) :=
      ((Ix.Kq.below ((Below.refl _ W).alloc (Nat.le_refl _) _) (by omega)).trans (Ix.Kq.grown hgrow (by simp; omega) (fun r e => Ix.row_ge hrow e))).trans (Ix.Kq.set _)
    refine ⟨hk2.from _, hk5, ⟨_, hv2, ?_, trivial⟩, hB.trans hb2, hKq.trans hk5⟩
    have h9 := hown'.kept (grownBy_setCell' w1 w.heap.size (.slice (some ⟨g', 0, none⟩) (pre.length + 1) cap')) (.inr (hv1.not_row (by decide) hown').symm)
    rw [List.map_append, Mm.nts_app, List.length_append]
    have e9 : Mm.nts (List.map Ix.tidOf [x]) = [.int .i64 ((Ix.tidV (Ix.optOf x) : Nat) : Int)] := by rw [← Ix.tid_opt]; rfl
    rw [e9]
    exact h9
  case done =>
    rintro D ys W hD rfl ⟨⟨v, hv, hrow, _⟩, hB, hKq⟩ hKd
    have hcv := hv.cell
    have hfv := hv.frozen
    obtain ⟨pv, cv, rfl⟩ := Ix.row_shape hrow
    gi_wp2
    have hK' := (KeepsOthers.setCell W ⟨w.heap.size, 0, none⟩ (.slice pv ys.length cv)).same D _ hKd rfl
    refine ⟨by simp, .inl ⟨_, _, rfl, run_takeDeferred hK', ?_⟩⟩
    have hc5 := cell_kept (World.cell?_setCell_same' W ⟨w.heap.size, 0, none⟩ (.slice pv ys.length cv) (by rw [hcv]; rfl)) (grownBy_putObj' _ D (.deferred none)) (fun r e => by cases e; exact ⟨_, hK', rfl⟩)
    refine ⟨.tuple #[.slice pv ys.length cv, .slice p2 nL c2], ?_, _, _, rfl, ?_⟩
    · simp [results, Tryz.f40, go_sem, hc5]
    have hD' : w3.heap.size + 1 ≤ D := by simpa using hD
    have h9 := hrow.kept (grownBy_setCell' W w.heap.size (.slice pv ys.length cv)) (.inr (hv.not_row (by decide) hrow).symm)
    refine ⟨?_, ?_, (hB.setCell (p := ⟨w.heap.size, 0, none⟩) (Nat.le_refl _) _).trans (belowK_b (w := w) (Nat.le_refl _) _ D _ _ (by omega) hK' rfl rfl)⟩
    · have h10 := Ix.row_base (ownsRow_putObj h9 (.deferred none) hK' rfl) (b' := w.heap.size) (by omega)
      show World.ownsRow _ _ 3 1 _ (Mm.nts (List.map Ix.tidOf ys)).length _
      rw [Mm.nts_len, List.length_map]
      exact h10
    · have hk5 := (hKq.trans (Ix.Kq.set (.slice pv ys.length cv))).trans (Ix.Kq.put (n := w3.heap.size) (B0 := w.heap.size) (w := w3) (Nat.le_refl _) (W.setCell ⟨w.heap.size, 0, none⟩ (.slice pv ys.length cv)) D _ (.deferred none) (by omega) hK' rfl rfl)
      exact (o2.keep (fun g hg => hk5.block g (o2.lt hg).1 (by have := (o2.lt hg).2; omega))).base (by omega)
  case stop =>
    rintro D c pre W _ _ h _
    exact h.elim
end Go.Proofs.YtjnaafgiokdcbaaGreatDoor
