/- Sees, tids, All, Visible, Get. -/
import Derived.Test.YtoobljkjhpkghaaHa6
namespace Go.Proofs.Ytoobljkjhpkghaa
open Go.RowKit

namespace Hp
def seesV (s : Cg.S) (r : R) (x t : Int) : Bool := (fnd r.vs t).isSome && seen s x (fndD r.vs t)
def tidsL (l : List Ver) : List Nat := l.map Ver.tid
def visL (s : Cg.S) (x : Int) (l : List Ver) : List Nat := tidsL (l.filter (seen s x))
theorem tidsL_take {l : List Ver} {k : Nat} {v : Ver} (h : l[k]? = some v) : tidsL (l.take (k + 1)) = tidsL (l.take k) ++ [v.tid] := by
  unfold tidsL
  rw [List.take_add_one, h]
  simp
theorem visL_take {s : Cg.S} {x : Int} {l : List Ver} {k : Nat} {v : Ver} (h : l[k]? = some v) : visL s x (l.take (k + 1)) = visL s x (l.take k) ++ (if seen s x v = true then [v.tid] else []) := by
  unfold visL tidsL
  rw [List.take_add_one, h, List.filter_append, List.map_append]
  congr 1
  by_cases e : seen s x v = true
  · simp [e]
  · simp at e; simp [e]
theorem tidsL_len (l : List Ver) : (tidsL l).length = l.length := by simp [tidsL]
theorem visL_len (s : Cg.S) (x : Int) (l : List Ver) : (visL s x l).length ≤ l.length := by unfold visL; rw [tidsL_len]; exact List.length_filter_le _ _
end Hp

set_option maxRecDepth 100000 in
set_option maxHeartbeats 2000000 in
theorem hsees_any (w : World) (base : Nat) (v lv : Value) (r : Hp.R) (s : Cg.S) (x t : Int) (hR : Hid (Hp.Rv w base v r)) (hI : Hid (Hp.Inv r)) (h : Hid (Mm.Lv w lv s)) (hn : s.n ≤ 200) :
    Calls Try.prog 35 #[v, lv, .int .i64 x, .int .i64 t] w fun e w' => e = .returned (.bool (Hp.seesV s r x t)) ∧ Below w.heap.size w w' := by
  unfold Hp.seesV
  obtain ⟨b, hb⟩ : ∃ b, b = (Hp.fnd r.vs t).isSome := ⟨_, rfl⟩
  obtain ⟨u, hu⟩ : ∃ u, u = Hp.fndD r.vs t := ⟨_, rfl⟩
  have C1 : Hid (∀ wz, Hid (Hp.Rv wz base v r) → Calls Try.prog 59 #[v, .int .i64 t] wz fun e w' => e = .returned (.tuple #[.agg #[.int .i64 (u.tid : Int), .int .i64 u.xmin, .int .i64 u.xmax, .slice u.p u.xs.length u.c], .bool b]) ∧ Below wz.heap.size wz w') := Vl.hid (fun wz hz => hb ▸ hu ▸ version_any wz base v r t hz hI)
  rw [← hb, ← hu]
  clear hb hu
  go_enter Try.func35, Try.ntmps35
  go_wp2_with fail
  refine (C1.out _ hR).mono ?_
  rintro e w1 ⟨rfl, hb⟩
  have HB1 := Vl.hid hb
  have HL1 := Vl.hid (h.out.below hb)
  clear hb
  cases b
  · go_wp2_with fail
    go_ret
    exact ⟨rfl, HB1.out.alloc HB1.out.size _⟩
  · have HL2 : Hid (Mm.Lv (w1.alloc (.cells #[.int .i64 (u.tid : Int), .int .i64 u.xmin, .int .i64 u.xmax, .slice u.p u.xs.length u.c] 100)) lv s) := Vl.hid (HL1.out.below ((Below.refl _ _).alloc (Nat.le_refl _) _))
    have HB2 : Hid (Below w.heap.size w (w1.alloc (.cells #[.int .i64 (u.tid : Int), .int .i64 u.xmin, .int .i64 u.xmax, .slice u.p u.xs.length u.c] 100))) := Vl.hid (HB1.out.alloc HB1.out.size _)
    go_wp2_with fail
    refine (seen_any _ lv s u x HL2 hn).mono ?_
    rintro e w3 ⟨rfl, hb⟩
    have HB3 := Vl.hid (HB2.out.trans (hb.mono HB2.out.size))
    clear hb
    go_wp2_with fail
    go_ret
    exact ⟨by simp, HB3.out⟩

set_option maxRecDepth 100000 in
set_option maxHeartbeats 2000000 in
theorem tids_any (l : List Hp.Ver) (p : Option Addr) (n c : Nat) (w : World) (hn : l.length = n) (hn2 : n ≤ 100000) (H : Hid (Vl.Lies w p (Hp.cellsR l))) :
    Calls Try.prog 48 #[.slice p n c] w fun e w' => ∃ v', e = .returned v' ∧ Mm.Own w' w.heap.size 3 v' (Mm.nts (Hp.tidsL l)) ∧ Below w.heap.size w w' := by
  have HN := Vl.hid hn
  clear hn
  go_enter Try.func48, Try.ntmps48
  go_wp2_with fail
  go_loopw [3, 8] (fun vo vi wq => ∃ j : Nat, j ≤ n ∧ vi = .int .i64 (j : Int) ∧ Hid (Mm.Own wq w.heap.size 3 vo (Mm.nts (Hp.tidsL (l.take j)))) ∧ Hid (Below w.heap.size w wq)) (fun vo vi _ => n - (RowKit.intOf vi).toNat)
  case atStart => exact ⟨0, by omega, rfl, Mm.hid (Mm.Own.nil _ _ _), Mm.hid (Below.refl _ _)⟩
  case round =>
    obtain ⟨j, hj, rfl, HO, HB⟩ := hrel
    rename World => wq
    obtain ⟨q, c', hsh, -, -, -, -⟩ := HO.out.shape
    obtain ⟨L, hL⟩ : ∃ L, L = (Mm.nts (Hp.tidsL (l.take j))).length := ⟨_, rfl⟩
    rw [← hL] at hsh
    subst hsh
    have HC : Hid ((Mm.nts (Hp.tidsL (l.take j))).length < 1000000) := Mm.hid (by rw [Mm.nts_len, Hp.tidsL_len, List.length_take]; omega)
    have hsz := HB.out.size
    clear hL
    by_cases hjm : j < n
    · obtain ⟨v, hv⟩ : ∃ v, l[j]? = some v := ⟨l[j]'(by rw [HN.out]; exact hjm), List.getElem?_eq_getElem _⟩
      obtain ⟨b, o, hp, hb, d0, d1, d2, d3⟩ := Hp.liesAt (H.out.below HB.out) hv
      subst hp
      have HE : Hid (Mm.nts (Hp.tidsL (l.take (j + 1))) = Mm.nts (Hp.tidsL (l.take j)) ++ [.int .i64 (v.tid : Int)]) := Mm.hid (by rw [Hp.tidsL_take hv, Mm.nts_app]; rfl)
      have HO2 : Hid (Mm.Own (wq.alloc (.cells #[.int .i64 (v.tid : Int), .int .i64 v.xmin, .int .i64 v.xmax, .slice v.p v.xs.length v.c] 100)) w.heap.size 3 (.slice q L c') (Mm.nts (Hp.tidsL (l.take j)))) := Mm.hid (HO.out.below ((Below.refl _ _).alloc (Nat.le_refl _) _))
      have HB2 : Hid (Below w.heap.size w (wq.alloc (.cells #[.int .i64 (v.tid : Int), .int .i64 v.xmin, .int .i64 v.xmax, .slice v.p v.xs.length v.c] 100))) := Mm.hid (HB.out.alloc hsz _)
      clear hv
      have k1 : (j : Int) < (n : Int) := by omega
      have k2 : (0 : Int) ≤ (j : Int) := by omega
      go_wp2_with (at_builtin; first
        | (refine Mm.appI (wq.alloc (.cells #[.int .i64 (v.tid : Int), .int .i64 v.xmin, .int .i64 v.xmax, .slice v.p v.xs.length v.c] 100)) rfl _ _ rfl w.heap.size (.slice q L c') (v.tid : Int) (Mm.nts (Hp.tidsL (l.take j))) rfl HO2.out _ rfl (by simp) HC.out HB2.out.size ?_
           intro v3 w3 hown3 hg3 hloc3
           have HO3 : Hid (Mm.Own w3 w.heap.size 3 v3 (Mm.nts (Hp.tidsL (l.take (j + 1))))) := Mm.hid (by rw [HE.out]; exact hown3)
           have HB3 : Hid (Below w.heap.size w w3) := Mm.hid (HB2.out.grown hg3 HB2.out.size (fun g e => (HO2.out.lt e).2))
           clear hown3 hg3 hloc3))
      exact ⟨⟨j + 1, by omega, by go_num, HO3, HB3⟩, by simp [RowKit.intOf]; omega⟩
    · obtain rfl : j = n := by omega
      go_wp2_with fail
      go_ret
      exact ⟨_, rfl, by rw [← List.take_of_length_le (l := l) (i := j) (by rw [HN.out]; exact Nat.le_refl _)]; exact HO.out, HB.out⟩

set_option maxRecDepth 100000 in
set_option maxHeartbeats 2000000 in
theorem all_any (w : World) (base : Nat) (v : Value) (r : Hp.R) (hR : Hid (Hp.Rv w base v r)) (hI : Hid (Hp.Inv r)) :
    Calls Try.prog 38 #[v] w fun e w' => ∃ v', e = .returned v' ∧ Mm.Own w' w.heap.size 3 v' (Mm.nts (Hp.tidsL r.vs)) ∧ Below w.heap.size w w' := by
  go_enter Try.func38, Try.ntmps38
  go_wp2_with fail
  refine (all0_any w base v r hR).mono ?_
  rintro e w1 ⟨p, c, rfl, hc, hl, hrows, rfl⟩
  have HL := Vl.hid hl
  have hlen := hI.out.len
  obtain ⟨L, hL⟩ : ∃ L, L = r.vs.length := ⟨_, rfl⟩
  rw [← hL] at hlen ⊢
  have HS := Vl.hid hL
  clear hl hrows hL hc
  go_wp2_with fail
  refine (tids_any r.vs p L c w1 HS.out.symm (by omega) HL).mono ?_
  rintro e w2 ⟨v2, rfl, ho, hb2⟩
  have HO := Vl.hid ho
  clear ho
  go_wp2_with fail
  go_ret
  exact ⟨v2, rfl, HO.out, hb2⟩

set_option maxRecDepth 100000 in
set_option maxHeartbeats 2000000 in
theorem visible_any (w : World) (base : Nat) (v lv : Value) (r : Hp.R) (s : Cg.S) (x : Int) (hR : Hid (Hp.Rv w base v r)) (hI : Hid (Hp.Inv r)) (h : Hid (Mm.Lv w lv s)) (hn : s.n ≤ 200) :
    Calls Try.prog 39 #[v, lv, .int .i64 x] w fun e w' => ∃ v', e = .returned v' ∧ Mm.Own w' w.heap.size 3 v' (Mm.nts (Hp.visL s x r.vs)) ∧ Below w.heap.size w w' := by
  go_enter Try.func39, Try.ntmps39
  go_wp2_with fail
  refine (all0_any w base v r hR).mono ?_
  rintro e w1 ⟨p, c, rfl, hc, hl, hrows, rfl⟩
  have HL := Vl.hid hl
  have hlen := hI.out.len
  obtain ⟨n, hL⟩ : ∃ n, n = r.vs.length := ⟨_, rfl⟩
  rw [← hL] at hlen ⊢
  have HN := Vl.hid hL
  clear hl hrows hL hc
  go_wp2_with fail
  go_loopw [7, 13] (fun vo vi wq => ∃ j : Nat, j ≤ n ∧ vi = .int .i64 (j : Int) ∧ Hid (Mm.Own wq w1.heap.size 3 vo (Mm.nts (Hp.visL s x (r.vs.take j)))) ∧ Hid (Below w1.heap.size w1 wq)) (fun vo vi _ => n - (RowKit.intOf vi).toNat)
  case atStart => exact ⟨0, by omega, rfl, Mm.hid (Mm.Own.nil _ _ _), Mm.hid (Below.refl _ _)⟩
  case round =>
    obtain ⟨j, hj, rfl, HO, HB⟩ := hrel
    rename World => wq
    obtain ⟨q, c', hsh, -, -, -, -⟩ := HO.out.shape
    obtain ⟨L, hL⟩ : ∃ L, L = (Mm.nts (Hp.visL s x (r.vs.take j))).length := ⟨_, rfl⟩
    rw [← hL] at hsh
    subst hsh
    have HC : Hid ((Mm.nts (Hp.visL s x (r.vs.take j))).length < 1000000) := Mm.hid (by rw [Mm.nts_len]; have := Hp.visL_len s x (r.vs.take j); rw [List.length_take] at this; omega)
    have hsz := HB.out.size
    clear hL
    by_cases hjm : j < n
    · obtain ⟨u, hv⟩ : ∃ u, r.vs[j]? = some u := ⟨r.vs[j]'(by rw [← HN.out]; exact hjm), List.getElem?_eq_getElem _⟩
      obtain ⟨b, o, hp, hb, d0, d1, d2, d3⟩ := Hp.liesAt (HL.out.below HB.out) hv
      subst hp
      obtain ⟨bs, hbs⟩ : ∃ bs, bs = Hp.seen s x u := ⟨_, rfl⟩
      have CS : Hid (∀ wz, Hid (Mm.Lv wz lv s) → Calls Try.prog 60 #[.agg #[.int .i64 (u.tid : Int), .int .i64 u.xmin, .int .i64 u.xmax, .slice u.p u.xs.length u.c], lv, .int .i64 x] wz fun e w' => e = .returned (.bool bs) ∧ Below wz.heap.size wz w') := Vl.hid (fun wz hz => hbs ▸ seen_any wz lv s u x hz hn)
      have HE : Hid (Mm.nts (Hp.visL s x (r.vs.take (j + 1))) = Mm.nts (Hp.visL s x (r.vs.take j)) ++ Mm.nts (if bs = true then [u.tid] else [])) := Mm.hid (by rw [Hp.visL_take hv, Mm.nts_app, ← hbs])
      have HB2 : Hid (Below wq.heap.size wq (wq.alloc (.cells #[.int .i64 (u.tid : Int), .int .i64 u.xmin, .int .i64 u.xmax, .slice u.p u.xs.length u.c] 100))) := Mm.hid ((Below.refl _ wq).alloc (Nat.le_refl _) _)
      have HX : Hid (Hp.Bx (wq.alloc (.cells #[.int .i64 (u.tid : Int), .int .i64 u.xmin, .int .i64 u.xmax, .slice u.p u.xs.length u.c] 100)) wq.heap.size u) := Vl.hid (Mm.newAt wq _ rfl)
      have HV2 := Vl.hid (h.out.below (HB.out.trans (HB2.out.mono HB.out.size)))
      clear hv hbs
      have k1 : (j : Int) < (n : Int) := by omega
      have k2 : (0 : Int) ≤ (j : Int) := by omega
      go_wp2_with fail
      refine (CS.out _ HV2).mono ?_
      rintro e w2 ⟨rfl, hb⟩
      have HX2 := Vl.hid (HX.out.below hb)
      have HB3 := Vl.hid (HB2.out.trans (hb.mono HB2.out.size))
      have HO2 : Hid (Mm.Own w2 w1.heap.size 3 (.slice q L c') (Mm.nts (Hp.visL s x (r.vs.take j)))) := Mm.hid (HO.out.below HB3.out)
      have HB4 : Hid (Below w1.heap.size w1 w2) := Vl.hid (HB.out.trans (HB3.out.mono HB.out.size))
      have e0 := HX2.out.c0
      have hx2 := Mm.heapLt HX2.out
      clear hb d0 d1 d2 d3 HX
      cases bs
      · go_wp2_with fail
        exact ⟨⟨j + 1, by omega, by go_num, Mm.hid (by rw [HE.out]; simpa [Mm.nts] using HO2.out), HB4⟩, by simp [RowKit.intOf]; omega⟩
      · go_wp2_with (at_builtin; first
          | (refine Mm.appI w2 rfl _ _ rfl w1.heap.size (.slice q L c') (u.tid : Int) (Mm.nts (Hp.visL s x (r.vs.take j))) rfl HO2.out _ rfl (by simp) HC.out HB4.out.size ?_
             intro v3 w3 hown3 hg3 hloc3
             have HO3 : Hid (Mm.Own w3 w1.heap.size 3 v3 (Mm.nts (Hp.visL s x (r.vs.take (j + 1))))) := Mm.hid (by rw [HE.out]; exact hown3)
             have HB5 : Hid (Below w1.heap.size w1 w3) := Mm.hid (HB4.out.grown hg3 HB4.out.size (fun g e => (HO2.out.lt e).2))
             clear hown3 hg3 hloc3))
        exact ⟨⟨j + 1, by omega, by go_num, HO3, HB5⟩, by simp [RowKit.intOf]; omega⟩
    · obtain rfl : j = n := by omega
      go_wp2_with fail
      go_ret
      exact ⟨_, rfl, by rw [← List.take_of_length_le (l := r.vs) (i := j) (by rw [HN.out]; exact Nat.le_refl _)]; exact HO.out, HB.out⟩

set_option maxRecDepth 100000 in
set_option maxHeartbeats 2000000 in
theorem get_any (w : World) (base : Nat) (v : Value) (r : Hp.R) (t : Int) (hR : Hid (Hp.Rv w base v r)) (hI : Hid (Hp.Inv r)) :
    Calls Try.prog 37 #[v, .int .i64 t] w fun e w' => ∃ p c, e = .returned (.tuple #[.agg #[.int .i64 (Hp.fndD r.vs t).xmin, .int .i64 (Hp.fndD r.vs t).xmax, .slice p (Hp.fndD r.vs t).xs.length c], .bool (Hp.fnd r.vs t).isSome]) ∧ w'.ownsRow w.heap.size 50 4 (.slice p (Hp.fndD r.vs t).xs.length c) (Hp.fndD r.vs t).xs.length (Vl.cellsV (Hp.fndD r.vs t).xs) ∧ Below w.heap.size w w' := by
  obtain ⟨bf, hbf⟩ : ∃ b, b = (Hp.fnd r.vs t).isSome := ⟨_, rfl⟩
  obtain ⟨u, hu⟩ : ∃ u, u = Hp.fndD r.vs t := ⟨_, rfl⟩
  have C1 : Hid (∀ wz, Hid (Hp.Rv wz base v r) → Calls Try.prog 59 #[v, .int .i64 t] wz fun e w' => e = .returned (.tuple #[.agg #[.int .i64 (u.tid : Int), .int .i64 u.xmin, .int .i64 u.xmax, .slice u.p u.xs.length u.c], .bool bf]) ∧ Below wz.heap.size wz w') := Vl.hid (fun wz hz => hbf ▸ hu ▸ version_any wz base v r t hz hI)
  have HU : Hid ((u.p = none → u.xs.length = 0 ∧ u.c = 0) ∧ Vl.RowIn w u.p u.xs ∧ u.xs.length ≤ 1000000) := Vl.hid (by
    cases hf : Hp.fnd r.vs t with
    | none =>
      have : u = Hp.v0 := by rw [hu]; unfold Hp.fndD; rw [hf]; rfl
      subst this
      exact ⟨fun _ => ⟨rfl, rfl⟩, Or.inl rfl, by decide⟩
    | some u' =>
      have : u = u' := by rw [hu]; unfold Hp.fndD; rw [hf]; rfl
      subst this
      have hm := (Hp.fnd_mem hf).1
      rcases hR.out with ⟨b, rfl, sv, hl⟩ | ⟨rfl, rfl⟩
      · have hr := hl.rows u hm
        obtain ⟨p, c, e1, e2, e3⟩ := Vl.lies_own hr
        unfold Hp.Ver.rv at e1
        injection e1 with e1 e4 e5
        subst e1 e5
        refine ⟨fun hp => ?_, e3, hl.small u hm⟩
        obtain ⟨_, ⟨f1, f2⟩ | ⟨g, cap, cur, f1, _⟩⟩ := hr
        · unfold Hp.Ver.rv at f1; injection f1 with f1 f3 f4; exact ⟨f3, f4⟩
        · unfold Hp.Ver.rv at f1; injection f1 with f1; rw [hp] at f1; cases f1
      · simp [Hp.r0] at hm)
  rw [← hbf, ← hu]
  clear hbf hu
  obtain ⟨W0, hW0⟩ : ∃ W0, w.alloc (.cells #[.int .i64 0, .int .i64 0, .slice none 0 0] 79) = W0 := ⟨_, rfl⟩
  have HB0 : Hid (Below w.heap.size w W0) := Vl.hid (hW0 ▸ (Below.refl _ w).alloc (Nat.le_refl _) _)
  have HX : Hid (W0.heap[w.heap.size]? = some (.cells #[.int .i64 0, .int .i64 0, .slice none 0 0] 79 (0, 0))) := Vl.hid (hW0 ▸ Mm.newAt w _ rfl)
  have HR0 := Vl.hid (hR.out.below HB0.out)
  go_enter Try.func37, Try.ntmps37
  go_wp2_with fail
  refine (C1.out _ HR0).mono ?_
  rintro e w1 ⟨rfl, hb⟩
  have HB1 := Vl.hid (HB0.out.trans (hb.mono HB0.out.size))
  have HX1 := Vl.hid ((hb.block _ (Mm.heapLt HX.out)).trans HX.out)
  clear hb hW0
  go_wp2_with fail
  have HB2 : Hid (Below w.heap.size w (w1.alloc (.cells #[.int .i64 (u.tid : Int), .int .i64 u.xmin, .int .i64 u.xmax, .slice u.p u.xs.length u.c] 100))) := Vl.hid (HB1.out.alloc HB1.out.size _)
  have HX2 : Hid ((w1.alloc (.cells #[.int .i64 (u.tid : Int), .int .i64 u.xmin, .int .i64 u.xmax, .slice u.p u.xs.length u.c] 100)).heap[w.heap.size]? = some (.cells #[.int .i64 0, .int .i64 0, .slice none 0 0] 79 (0, 0))) := Vl.hid ((Mm.oldAt w1 _ (Mm.heapLt HX1.out)).trans HX1.out)
  have HV2 : Hid (Hp.Bx (w1.alloc (.cells #[.int .i64 (u.tid : Int), .int .i64 u.xmin, .int .i64 u.xmax, .slice u.p u.xs.length u.c] 100)) w1.heap.size u) := Vl.hid (Mm.newAt w1 _ rfl)
  have hlt1 := Mm.heapLt HX1.out
  refine (cloneV_any u.p u.xs.length u.c u.xs _ rfl HU.out.2.2 HU.out.1 (Vl.hid (HU.out.2.1.below HB2.out))).mono ?_
  rintro e w3 ⟨v3, rfl, hown, hb⟩
  obtain ⟨p3, c3, rfl, hc3, -⟩ := Vl.lies_own hown
  have HO3 : Hid (w3.ownsRow w.heap.size 50 4 (.slice p3 u.xs.length c3) u.xs.length (Vl.cellsV u.xs)) := Vl.hid (Hp.ownBase hown (by have := HB1.out.size; simp; omega))
  have HN3 : Hid (∀ g, (Value.slice p3 u.xs.length c3).ownBlock = some g → g ≠ w.heap.size ∧ g ≠ w1.heap.size) := Vl.hid (fun g hg => by
    have := (Hp.ownLt hown hg).1
    simp at this
    omega)
  have HB3 := Vl.hid (HB2.out.trans (hb.mono HB2.out.size))
  have hx3 := (hb.block _ (Mm.heapLt HX2.out)).trans HX2.out
  have hv3 := HV2.out.below hb
  have hq0 := Mm.heapLt hx3
  have hq1 := Mm.heapLt hv3
  have k0 : w3.cell? ⟨w.heap.size, 0, none⟩ = some (.int .i64 0) := Mm.cellOf hx3 rfl
  have k1 : w3.cell? ⟨w.heap.size, 1, none⟩ = some (.int .i64 0) := Mm.cellOf hx3 rfl
  have k2 : w3.cell? ⟨w.heap.size, 2, none⟩ = some (.slice none 0 0) := Mm.cellOf hx3 rfl
  have f0 : ∀ i, w3.frozen? ⟨w.heap.size, i, none⟩ = false := fun i => by simp [World.frozen?, hx3]
  have f1 : ∀ i, w3.frozen? ⟨w1.heap.size, i, none⟩ = false := fun i => by simp [World.frozen?, show w3.heap[w1.heap.size]? = _ from hv3]
  have j1 := hv3.c1
  have j2 := hv3.c2
  have j3 := hv3.c3
  have HX3 := Vl.hid hx3
  have HV3 := Vl.hid hv3
  clear hown hb hx3 hv3
  go_wp2_with fail
  obtain ⟨Wz, hWz⟩ : ∃ Wz, ((((w3.setCell ⟨w1.heap.size, 3, none⟩ (.slice p3 u.xs.length c3)).setCell ⟨w.heap.size, 0, none⟩ (.int .i64 u.xmin)).setCell ⟨w.heap.size, 1, none⟩ (.int .i64 u.xmax)).setCell ⟨w.heap.size, 2, none⟩ (.slice p3 u.xs.length c3)) = Wz := ⟨_, rfl⟩
  have hb : ((((w3.setCell ⟨w1.heap.size, 3, none⟩ (.slice p3 u.xs.length c3)).setCell ⟨w.heap.size, 0, none⟩ (.int .i64 u.xmin)).setCell ⟨w.heap.size, 1, none⟩ (.int .i64 u.xmax)).setCell ⟨w.heap.size, 2, none⟩ (.slice p3 u.xs.length c3)).heap[w.heap.size]? = some (.cells #[.int .i64 u.xmin, .int .i64 u.xmax, .slice p3 u.xs.length c3] 79 (0, 0)) := by
    have h0 : (w3.setCell ⟨w1.heap.size, 3, none⟩ (.slice p3 u.xs.length c3)).heap[w.heap.size]? = _ := (heap_setCell_other w3 ⟨w1.heap.size, 3, none⟩ w.heap.size _ (by show w.heap.size ≠ w1.heap.size; omega)).trans HX3.out
    generalize w3.setCell ⟨w1.heap.size, 3, none⟩ (.slice p3 u.xs.length c3) = W at h0
    simp [World.setCell, Array.getElem?_modify, h0]
  have hB : Below w.heap.size w ((((w3.setCell ⟨w1.heap.size, 3, none⟩ (.slice p3 u.xs.length c3)).setCell ⟨w.heap.size, 0, none⟩ (.int .i64 u.xmin)).setCell ⟨w.heap.size, 1, none⟩ (.int .i64 u.xmax)).setCell ⟨w.heap.size, 2, none⟩ (.slice p3 u.xs.length c3)) := (((HB3.out.setCell (Nat.le_of_lt hlt1) _).setCell (Nat.le_refl _) _).setCell (Nat.le_refl _) _).setCell (Nat.le_refl _) _
  have hO : ((((w3.setCell ⟨w1.heap.size, 3, none⟩ (.slice p3 u.xs.length c3)).setCell ⟨w.heap.size, 0, none⟩ (.int .i64 u.xmin)).setCell ⟨w.heap.size, 1, none⟩ (.int .i64 u.xmax)).setCell ⟨w.heap.size, 2, none⟩ (.slice p3 u.xs.length c3)).ownsRow w.heap.size 50 4 (.slice p3 u.xs.length c3) u.xs.length (Vl.cellsV u.xs) := Hp.ownKeep HO3.out (fun g hg => by
    obtain ⟨n1, n2⟩ := HN3.out g hg
    rw [heap_setCell_other _ ⟨w.heap.size, 2, none⟩ g _ n1, heap_setCell_other _ ⟨w.heap.size, 1, none⟩ g _ n1, heap_setCell_other _ ⟨w.heap.size, 0, none⟩ g _ n1, heap_setCell_other _ ⟨w1.heap.size, 3, none⟩ g _ n2])
  rw [hWz] at hb hB hO ⊢
  have e0 : Wz.cell? ⟨w.heap.size, 0, none⟩ = some (.int .i64 u.xmin) := Mm.cellOf hb rfl
  have e1 : Wz.cell? ⟨w.heap.size, 1, none⟩ = some (.int .i64 u.xmax) := Mm.cellOf hb rfl
  have e2 : Wz.cell? ⟨w.heap.size, 2, none⟩ = some (.slice p3 u.xs.length c3) := Mm.cellOf hb rfl
  exact bodyPost_ret (v := .tuple #[.agg #[.int .i64 u.xmin, .int .i64 u.xmax, .slice p3 u.xs.length c3], .bool bf]) (by simp [results, Try.results37, go_sem, e0, e1, e2]) rfl ⟨p3, c3, rfl, hO, hB⟩
end Go.Proofs.Ytoobljkjhpkghaa
