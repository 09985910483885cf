/- Vacuum, Copy. -/
import Derived.Test.YtoobljkjhpkghaaHa9
namespace Go.Proofs.Ytoobljkjhpkghaa
open Go.RowKit

namespace Hp
def vacS (s : Cg.S) (r : R) : R := ⟨stayL s r.vs, r.nx⟩
def vacL (s : Cg.S) (r : R) : List Nat := tidsL (goneL s r.vs)
theorem Inv.vacS {r : R} (h : Inv r) (s : Cg.S) : Inv (vacS s r) :=
  ⟨h.up.filter _, fun v hv => h.lt v (List.mem_filter.1 hv).1, Nat.le_trans (List.length_filter_le _ _) h.len, h.nx⟩
/-- Other versions in the relation, from the same ones. -/
theorem Rl.vac {w W : World} {base b : Nat} {r : R} {sv v1 : Value} (h : Rl w base b r sv) (hb : Below w.heap.size w W) (s : Cg.S) (own : W.ownsRow w.heap.size 100 4 v1 (stayL s r.vs).length (cellsR (stayL s r.vs))) :
    Rl (W.setCell ⟨b, 0, none⟩ v1) base b (vacS s r) v1 := by
  have hl := Mm.heapLt h.blk
  have hne : ∀ g, v1.ownBlock = some g → g ≠ b := fun g hg e => by have := (ownLt own hg).1; omega
  have ot : ∀ g, g ≠ b → (W.setCell ⟨b, 0, none⟩ v1).heap[g]? = W.heap[g]? := fun g hg => heap_setCell_other W ⟨b, 0, none⟩ g _ hg
  refine ⟨set0_heap ((hb.block b hl).trans h.blk), h.lo, ?_, fun e => hne b e rfl, fun v hv => ?_, fun v hv g hg => ?_, fun v hv => h.small v (List.mem_filter.1 hv).1⟩
  · exact ownBase (ownKeep own (fun g hg => ot g (hne g hg))) (by have := h.lo; omega)
  · have hv' := (List.mem_filter.1 hv).1
    exact ownKeep (Vl.own_below (h.rows v hv') hb) (fun g hg => ot g (h.sep v hv' g hg).1)
  · have hv' := (List.mem_filter.1 hv).1
    refine ⟨(h.sep v hv' g hg).1, fun e => ?_⟩
    have := (ownLt own e).1
    have := (ownLt (h.rows v hv') hg).2
    omega
end Hp

set_option maxRecDepth 100000 in
set_option maxHeartbeats 2000000 in
theorem vacuum_fr (w : World) (base b : Nat) (lv : Value) (r : Hp.R) (s : Cg.S) (hR : Hid (Hp.Rn w base b r)) (hI : Hid (Hp.Inv r)) (h : Hid (Mm.Lv w lv s)) (hi : Hid (Cg.Inv s)) :
    Calls Try.prog 19 #[.pointer (some ⟨b, 0, none⟩), lv] w fun e w' => ∃ v', e = .returned v' ∧ Mm.Own w' w.heap.size 3 v' (Mm.nts (Hp.vacL s r)) ∧ Hp.Rn w' base b (Hp.vacS s r) ∧ Mm.Tch b w w' ∧ ∀ g, v'.ownBlock = some g → w.heap.size ≤ g ∧ g < w'.heap.size ∧ Hp.Fr w' b g := by
  have hlb := hR.out.lt
  go_enter Try.func19, Try.ntmps19
  go_wp2_with fail
  refine (sift_any w base b lv r s hR hI h hi).mono ?_
  rintro e w1 ⟨v1, v2, rfl, ho1, ho2, hne, hb⟩
  obtain ⟨sv, hl⟩ := hR.out
  have hc0 := (hl.below hb).c0
  have hfz := (hl.below hb).fr 0
  have hlt := Mm.heapLt (hl.below hb).blk
  have HR1 := Vl.hid (hl.vac hb s ho1)
  obtain ⟨p2, c2, rfl, -, hlies2⟩ := Vl.lies_own ho2
  obtain ⟨p1, c1, rfl, -, -⟩ := Vl.lies_own ho1
  have HL2 : Hid (Vl.Lies (w1.setCell ⟨b, 0, none⟩ (.slice p1 (Hp.stayL s r.vs).length c1)) p2 (Hp.cellsR (Hp.goneL s r.vs))) := Vl.hid (by
    obtain ⟨p, c, e1, -, e2⟩ := Vl.lies_own (Hp.ownKeep (w' := w1.setCell ⟨b, 0, none⟩ (.slice p1 (Hp.stayL s r.vs).length c1)) ho2 (fun g hg => heap_setCell_other w1 ⟨b, 0, none⟩ g _ (by have := (Hp.ownLt ho2 hg).1; show g ≠ b; omega)))
    injection e1 with e1
    rw [e1]; exact e2)
  have HT : Hid (Mm.Tch b w (w1.setCell ⟨b, 0, none⟩ (.slice p1 (Hp.stayL s r.vs).length c1))) := Vl.hid ((Mm.Tch.of hb).set hlb.1 0 _)
  have HCL : Hid ((w1.setCell ⟨b, 0, none⟩ (.slice p1 (Hp.stayL s r.vs).length c1)).cell? ⟨b, 0, none⟩ = some (.slice p1 (Hp.stayL s r.vs).length c1)) := Vl.hid (Mm.cellOf (Hp.set0_heap (hl.below hb).blk) rfl)
  have hlen : (Hp.goneL s r.vs).length ≤ 100000 := Nat.le_trans (List.length_filter_le _ _) (by have := hI.out.len; omega)
  obtain ⟨N1, hN1⟩ : ∃ n, n = (Hp.stayL s r.vs).length := ⟨_, rfl⟩
  obtain ⟨N2, hN2⟩ : ∃ n, n = (Hp.goneL s r.vs).length := ⟨_, rfl⟩
  rw [← hN1] at HR1 HL2 HT HCL ⊢
  rw [← hN2] at hlen ⊢
  have HN2 := Vl.hid hN2
  clear ho1 ho2 hne hb hl hlies2 hN1 hN2
  go_wp2_with fail
  obtain ⟨W2, hW2⟩ : ∃ W2, w1.setCell ⟨b, 0, none⟩ (.slice p1 N1 c1) = W2 := ⟨_, rfl⟩
  have HC2 : Hid (W2.cell? ⟨b, 0, none⟩ = some (.slice p1 N1 c1)) := Vl.hid (hW2 ▸ HCL.out)
  rw [hW2] at HR1 HL2 HT ⊢
  clear hc0 hfz hlt hW2
  refine (tids_any (Hp.goneL s r.vs) p2 N2 c2 W2 HN2.out.symm hlen HL2).mono ?_
  rintro e w3 ⟨v3, rfl, ho3, hb3⟩
  have HO3 := Vl.hid (ho3.base HT.out.size)
  have HF3 : Hid (∀ g, v3.ownBlock = some g → w.heap.size ≤ g ∧ g < w3.heap.size ∧ Hp.Fr w3 b g) := Vl.hid (fun g hg => by
    have h1 := ho3.lt hg
    have hbl := Mm.heapLt HR1.out.blk
    refine ⟨Nat.le_trans HT.out.size h1.2, h1.1, by omega, fun sv hsv e => ?_⟩
    rw [(hb3.cell (p := ⟨b, 0, none⟩) hbl).trans HC2.out] at hsv
    cases hsv
    have := (Hp.ownLt HR1.out.own e).2
    omega)
  have HT3 := Vl.hid (HT.out.trans (Mm.Tch.of hb3))
  have HR3 := Vl.hid (HR1.out.below hb3)
  clear ho3 hb3
  go_wp2_with fail
  go_ret
  exact ⟨_, rfl, HO3.out, ⟨_, HR3.out⟩, HT3.out, HF3.out⟩

theorem vacuum_any (w : World) (base b : Nat) (lv : Value) (r : Hp.R) (s : Cg.S) (hR : Hid (Hp.Rn w base b r)) (hI : Hid (Hp.Inv r)) (h : Hid (Mm.Lv w lv s)) (hi : Hid (Cg.Inv s)) :
    Calls Try.prog 19 #[.pointer (some ⟨b, 0, none⟩), lv] w fun e w' => ∃ v', e = .returned v' ∧ Mm.Own w' w.heap.size 3 v' (Mm.nts (Hp.vacL s r)) ∧ Hp.Rn w' base b (Hp.vacS s r) ∧ Mm.Tch b w w' :=
  (vacuum_fr w base b lv r s hR hI h hi).mono (fun _ _ ⟨v', h1, h2, h3, h4, _⟩ => ⟨v', h1, h2, h3, h4⟩)

namespace Hp
/-- By new numbers, from k on. -/
def renum : Nat → List Ver → List Ver
  | _, [] => []
  | k, v :: l => { v with tid := k } :: renum (k + 1) l
theorem renum_len : ∀ (k : Nat) (l : List Ver), (renum k l).length = l.length
  | _, [] => rfl
  | k, _ :: l => by simp [renum, renum_len (k + 1) l]
theorem renum_app : ∀ (k : Nat) (a b : List Ver), renum k (a ++ b) = renum k a ++ renum (k + a.length) b
  | _, [], _ => by simp [renum]
  | k, x :: a, b => by simp only [renum, List.cons_append, List.length_cons]; rw [renum_app (k + 1) a b, show k + 1 + a.length = k + (a.length + 1) from by omega]
theorem renum_mem : ∀ (k : Nat) (l : List Ver) (v : Ver), v ∈ renum k l → k ≤ v.tid ∧ v.tid < k + l.length ∧ ∃ u ∈ l, v = { u with tid := v.tid }
  | _, [], v, h => by simp [renum] at h
  | k, x :: l, v, h => by
    rcases List.mem_cons.1 h with rfl | h
    · exact ⟨Nat.le_refl _, by simp, x, List.mem_cons_self .., rfl⟩
    · obtain ⟨h1, h2, u, hu, e⟩ := renum_mem (k + 1) l v h
      exact ⟨by omega, by simp; omega, u, List.mem_cons_of_mem _ hu, e⟩
theorem renum_up : ∀ (k : Nat) (l : List Ver), (renum k l).Pairwise (fun a b => a.tid < b.tid)
  | _, [] => List.Pairwise.nil
  | k, _ :: l => List.pairwise_cons.2 ⟨fun v hv => (renum_mem (k + 1) l v hv).1, renum_up (k + 1) l⟩
/-- The first ones by new numbers. -/
def mixed (l : List Ver) (j : Nat) : List Ver := renum 0 (l.take j) ++ l.drop j
theorem mixed_len (l : List Ver) (j : Nat) : (mixed l j).length = l.length := by
  unfold mixed
  rw [List.length_append, renum_len, List.length_take, List.length_drop]; omega
theorem mixed_set {l : List Ver} {j : Nat} {v : Ver} (h : l[j]? = some v) : (mixed l j)[j]? = some v ∧ mixed l (j + 1) = (mixed l j).set j { v with tid := j } := by
  have hj := (List.getElem?_eq_some_iff.1 h).1
  have hl : (renum 0 (l.take j)).length = j := by rw [renum_len, List.length_take]; omega
  have hd : l.drop j = v :: l.drop (j + 1) := by
    rw [List.drop_eq_getElem_cons hj, (List.getElem?_eq_some_iff.1 h).2]
  constructor
  · unfold mixed
    rw [List.getElem?_append_right (by omega), hl, Nat.sub_self, hd]; rfl
  · unfold mixed
    rw [List.set_append_right _ _ (by omega), hl, Nat.sub_self, hd, List.take_add_one, h, renum_app, List.length_take]
    rw [show min j l.length = j from by omega]
    simp [renum]
theorem cellsR_setT : ∀ (l : List Ver) (k : Nat) (v : Ver) (x : Nat), l[k]? = some v → cellsR (l.set k { v with tid := x }) = (cellsR l).set (k * 4) (.int .i64 (x : Int))
  | [], k, v, x, h => by simp at h
  | y :: l, 0, v, x, h => by simp at h; subst h; simp [cellsR]
  | y :: l, k + 1, v, x, h => by
    have ih := cellsR_setT l k v x (by simpa using h)
    rw [show (k + 1) * 4 = k * 4 + 4 from by omega]
    simp [cellsR, ih]
def copS (s : Cg.S) (r : R) : R := ⟨renum 0 (stayL s r.vs), (stayL s r.vs).length⟩
theorem Inv.copS {r : R} (h : Inv r) (s : Cg.S) : Inv (copS s r) := by
  have hl : (stayL s r.vs).length ≤ 512 := Nat.le_trans (List.length_filter_le _ _) h.len
  refine ⟨renum_up 0 _, fun v hv => ?_, by show (renum 0 (stayL s r.vs)).length ≤ 512; rw [renum_len]; exact hl, by show (stayL s r.vs).length ≤ 65536; omega⟩
  have := (renum_mem 0 _ v hv).2.1
  show v.tid < (stayL s r.vs).length
  omega
theorem ownSet {w : World} {base n size c g : Nat} {e : TypeId} {cs : List Value} (h : w.ownsRow base e size (.slice (some ⟨g, 0, none⟩) n c) n cs) (i : Nat) (u : Value) : (w.setCell ⟨g, i, none⟩ u).ownsRow base e size (.slice (some ⟨g, 0, none⟩) n c) n (cs.set i u) := by
  obtain ⟨h0, ⟨h1, _⟩ | ⟨g', cap, cur, e1, e2, e3, e4, e5, e6, e7⟩⟩ := h
  · cases h1
  · cases e1
    refine ⟨by rw [List.length_set]; exact h0, Or.inr ⟨g, c, cur.setIfInBounds i u, rfl, e2, heap_setCell_same w g _ cur _ _ e3, e4, e5, by simpa using e6, ?_⟩⟩
    rw [Array.toList_setIfInBounds, List.take_set, e7]
/-- A relation of the versions that stay. -/
theorem Rl.cop {w W : World} {base b : Nat} {r : R} {sv v1 : Value} {s : Cg.S} {n : Nat} (h : Rl w base b r sv) (hb : Below w.heap.size w W) (hn : n = (stayL s r.vs).length) (own : W.ownsRow w.heap.size 100 4 v1 n (cellsR (mixed (stayL s r.vs) n))) :
    Rl (W.alloc (.cells #[v1, .int .i64 (n : Int)] 94)) base W.heap.size (copS s r) v1 := by
  subst hn
  have hmx : mixed (stayL s r.vs) (stayL s r.vs).length = renum 0 (stayL s r.vs) := by unfold mixed; simp
  rw [hmx] at own
  have hal := (Below.refl W.heap.size W).alloc (Nat.le_refl _) (.cells #[v1, .int .i64 ((stayL s r.vs).length : Int)] 94)
  have hlo := h.lo
  have hbl := Mm.heapLt h.blk
  have hsz := hb.size
  have hrow : ∀ v ∈ renum 0 (stayL s r.vs), ∃ u ∈ r.vs, v.rv = u.rv ∧ v.xs = u.xs := fun v hv => by
    obtain ⟨_, _, u, hu, e⟩ := renum_mem 0 _ v hv
    exact ⟨u, (List.mem_filter.1 hu).1, by rw [e]; rfl, by rw [e]⟩
  refine ⟨Mm.newAt W _ rfl, by omega, ?_, fun e => ?_, fun v hv => ?_, fun v hv g hg => ?_, fun v hv => ?_⟩
  · show World.ownsRow _ base _ 4 v1 (renum 0 (stayL s r.vs)).length (cellsR (renum 0 (stayL s r.vs)))
    rw [renum_len]
    exact ownBase (Vl.own_below own hal) (by omega)
  · have := (ownLt own e).2; omega
  · obtain ⟨u, hu, e1, e2⟩ := hrow v hv
    rw [e1, e2]
    exact Vl.own_below (Vl.own_below (h.rows u hu) hb) hal
  · obtain ⟨u, hu, e1, e2⟩ := hrow v hv
    rw [e1] at hg
    have := (ownLt (h.rows u hu) hg).2
    exact ⟨by omega, fun e => by have := (ownLt own e).1; omega⟩
  · obtain ⟨u, hu, e1, e2⟩ := hrow v hv
    rw [e2]; exact h.small u hu
end Hp

set_option maxRecDepth 100000 in
set_option maxHeartbeats 2000000 in
theorem copy_any (w : World) (base b : Nat) (lv : Value) (r : Hp.R) (s : Cg.S) (hR : Hid (Hp.Rn w base b r)) (hI : Hid (Hp.Inv r)) (h : Hid (Mm.Lv w lv s)) (hi : Hid (Cg.Inv s)) :
    Calls Try.prog 21 #[.pointer (some ⟨b, 0, none⟩), lv] w fun e w' => ∃ b', e = .returned (.pointer (some ⟨b', 0, none⟩)) ∧ Hp.Rn w' base b' (Hp.copS s r) ∧ Below w.heap.size w w' := by
  go_enter Try.func21, Try.ntmps21
  go_wp2_with fail
  refine (sift_any w base b lv r s hR hI h hi).mono ?_
  rintro e w1 ⟨v1, v2, rfl, ho1, ho2, hne, hb⟩
  obtain ⟨p1, c1, rfl, hc1, -⟩ := Vl.lies_own ho1
  have HB1 := Vl.hid hb
  have hlen : (Hp.stayL s r.vs).length ≤ 512 := Nat.le_trans (List.length_filter_le _ _) hI.out.len
  obtain ⟨n, hN1⟩ : ∃ n, n = (Hp.stayL s r.vs).length := ⟨_, rfl⟩
  rw [← hN1] at ho1 hlen hc1 ⊢
  have HO1 : Hid (w1.ownsRow w.heap.size 100 4 (.slice p1 n c1) n (Hp.cellsR (Hp.mixed (Hp.stayL s r.vs) 0))) := Vl.hid ho1
  have HN := Vl.hid hN1
  clear ho1 ho2 hne hb hN1
  go_wp2_with fail
  go_loopw [7, 18] (fun _ vi wq => ∃ j : Nat, j ≤ n ∧ vi = .int .i64 (j : Int) ∧ Hid (wq.ownsRow w.heap.size 100 4 (.slice p1 n c1) n (Hp.cellsR (Hp.mixed (Hp.stayL s r.vs) j))) ∧ Hid (Below w.heap.size w wq)) (fun _ vi _ => n - (RowKit.intOf vi).toNat)
  case atStart => exact ⟨0, by omega, rfl, HO1, HB1⟩
  case round =>
    clear HO1 HB1
    obtain ⟨j, hj, rfl, HO, HB⟩ := hrel
    by_cases hjm : j < n
    · obtain ⟨u, hv⟩ : ∃ u, (Hp.stayL s r.vs)[j]? = some u := ⟨(Hp.stayL s r.vs)[j]'(by rw [← HN.out]; exact hjm), List.getElem?_eq_getElem _⟩
      obtain ⟨m1, m2⟩ := Hp.mixed_set hv
      obtain ⟨g, rfl⟩ := Vl.ownNonnil HO.out (by omega)
      obtain ⟨d1, d2, d3, d4⟩ := Vl.ownCell HO.out (Hp.cellsR_at _ _ _ m1).1
      have HS := Vl.hid (Hp.ownSet HO.out (j * 4) (.int .i64 (j : Int)))
      rw [← Hp.cellsR_setT _ _ _ j m1, ← m2] at HS
      have HB2 := Vl.hid (HB.out.setCell (p := ⟨g, j * 4, none⟩) d4 (.int .i64 (j : Int)))
      have i1 : (j : Int) < (n : Int) := by omega
      have i2 : (0 : Int) ≤ (j : Int) := by omega
      clear hv m1 m2 d4
      go_wp2_with fail
      exact ⟨⟨j + 1, by omega, by go_num, HS, HB2⟩, by simp [RowKit.intOf]; omega⟩
    · obtain rfl : j = n := by omega
      go_wp2_with fail
      go_ret
      obtain ⟨sv, hl⟩ := hR.out
      exact ⟨_, rfl, ⟨_, hl.cop HB.out HN.out HO.out⟩, HB.out.alloc HB.out.size _⟩
end Go.Proofs.Ytoobljkjhpkghaa
