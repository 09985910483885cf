/- HeapMost. -/
import Derived.Test.YtoobljkjhpkghaaHb3
namespace Go.Proofs.Ytoobljkjhpkghaa
open Go.RowKit

namespace Hp
/-- So many versions by 1, none ended. -/
structure Fm (j : Nat) (r : R) : Prop where
  inv : Inv r
  nx : r.nx = j
  len : r.vs.length = j
  at_ : ∀ (i : Nat) (v : Ver), r.vs[i]? = some v → v.tid = i ∧ v.xmin = 1 ∧ v.xmax = 0
theorem Fm.start : Fm 0 r0 := ⟨inv0, rfl, rfl, fun i v h => by simp [r0] at h⟩
theorem Fm.ins {j : Nat} {r : R} (h : Fm j r) (hj : j < 512) : insE r 1 = 0 ∧ insA r 1 = j ∧ ∀ q d xs, Fm (j + 1) (insS r 1 q d xs) := by
  have h1 : ¬ ((1 : Int) < 1) := by decide
  have h2 : ¬ (r.vs.length = 512 ∨ 65535 < r.nx) := by rw [h.len, h.nx]; omega
  refine ⟨by unfold insE; rw [if_neg h1, if_neg h2], by unfold insA; rw [if_neg h1, if_neg h2, h.nx], fun q d xs => ⟨h.inv.insS _ _ _ _, ?_, ?_, ?_⟩⟩
  · unfold insS; rw [if_neg h1, if_neg h2]; show r.nx + 1 = _; rw [h.nx]
  · unfold insS; rw [if_neg h1, if_neg h2]; show (r.vs ++ [_]).length = _; rw [List.length_append, h.len]; rfl
  · unfold insS; rw [if_neg h1, if_neg h2]
    intro i v hv
    have hv' : (r.vs ++ [⟨r.nx, 1, 0, q, d, xs⟩])[i]? = some v := hv
    by_cases e : i < j
    · rw [List.getElem?_append_left (by rw [h.len]; exact e)] at hv'
      exact h.at_ i v hv'
    · rw [List.getElem?_append_right (by rw [h.len]; omega), h.len] at hv'
      have : i - j = 0 := by
        have := (List.getElem?_eq_some_iff.1 hv').1
        simp at this; omega
      rw [this] at hv'
      simp at hv'
      subst hv'
      exact ⟨by show r.nx = i; rw [h.nx]; omega, rfl, rfl⟩
theorem Fm.full {r : R} (h : Fm 512 r) (x : Int) (hx : ¬ x < 1) : insE r x = 74 ∧ ∀ q d xs, insS r x q d xs = r := by
  have h2 : r.vs.length = 512 ∨ 65535 < r.nx := Or.inl h.len
  exact ⟨by unfold insE; rw [if_neg hx, if_pos h2], fun q d xs => by unfold insS; rw [if_neg hx, if_pos h2]⟩
theorem Fm.mem {j : Nat} {r : R} (h : Fm j r) {v : Ver} (hv : v ∈ r.vs) : v.tid < j ∧ v.xmin = 1 ∧ v.xmax = 0 := by
  obtain ⟨i, hi⟩ := List.getElem?_of_mem hv
  obtain ⟨a, b, c⟩ := h.at_ i v hi
  have := (List.getElem?_eq_some_iff.1 hi).1
  rw [h.len] at this
  exact ⟨by omega, b, c⟩
theorem Fm.tids {j : Nat} {r : R} (h : Fm j r) : tidsL r.vs = List.range j := by
  apply List.ext_getElem?
  intro i
  unfold tidsL
  rw [List.getElem?_map]
  by_cases e : i < j
  · obtain ⟨v, hv⟩ : ∃ v, r.vs[i]? = some v := ⟨_, List.getElem?_eq_getElem (by rw [h.len]; exact e)⟩
    rw [hv, List.getElem?_range e]
    exact congrArg some (h.at_ i v hv).1
  · rw [List.getElem?_eq_none (by rw [h.len]; omega), List.getElem?_eq_none (by simp; omega)]
    rfl
theorem Fm.fnd {j : Nat} {r : R} (h : Fm j r) {k : Nat} (hk : k < j) : (fnd r.vs (k : Int)).isSome = true := by
  have hl : k < r.vs.length := by rw [h.len]; exact hk
  obtain ⟨v, hv⟩ : ∃ v, r.vs[k]? = some v := ⟨_, List.getElem?_eq_getElem hl⟩
  have := (h.at_ k v hv).1
  rw [← this, fnd_at h.inv.up hv]; rfl
theorem range_filter (k : Nat) : ∀ n, (List.range n).filter (fun i => i == k) = if k < n then [k] else []
  | 0 => by simp
  | n + 1 => by
    rw [List.range_succ, List.filter_append, range_filter k n]
    by_cases e : n = k
    · subst e; simp
    · by_cases e2 : k < n
      · rw [if_pos e2, if_pos (by omega)]; simp [e]
      · rw [if_neg e2, if_neg (by omega)]; simp [e]
def m1 : Cg.S := Cg.begS (Cg.comS a1 1) false
def m2 : Cg.S := Cg.comS m1 2
def m3 : Cg.S := Cg.begS m2 false
theorem m1_inv : Cg.Inv m1 := ((Cg.inv0.begS false).comS 1).begS false
theorem m2_inv : Cg.Inv m2 := m1_inv.comS 2
/-- What stays, and what goes. -/
theorem Fm.stays {r : R} (h : Fm 512 r) (k : Nat) {v : Ver} (hv : v ∈ r.vs) : Hp.stays m2 (endV (k : Int) 2 v) = !(v.tid == k) := by
  obtain ⟨_, h1, h2⟩ := h.mem hv
  unfold endV
  by_cases e : v.tid = k
  · rw [if_pos (by omega)]
    unfold Hp.stays
    show (!((Cg.gt m2 v.xmin).st == 3) && !((Cg.gt m2 2).st == 2 && decide ((Cg.gt m2 2).csn ≤ Cg.horizon m2))) = _
    rw [h1, show (v.tid == k) = true from by simpa using e]
    kernel_rfl
  · rw [if_neg (by omega)]
    unfold Hp.stays
    rw [h1, h2, show (v.tid == k) = false from by simpa using e]
    kernel_rfl
theorem parts_len (s : Cg.S) : ∀ l : List Ver, (stayL s l).length + (goneL s l).length = l.length
  | [] => rfl
  | v :: l => by
    have ih := parts_len s l
    unfold stayL goneL at *
    cases e : Hp.stays s v <;> simp [e] <;> omega
theorem Fm.gone {r : R} (h : Fm 512 r) {k : Nat} (hk : k < 512) : vacL m2 (delS r 2 (k : Int)) = [k] := by
  unfold vacL delS goneL tidsL
  rw [if_neg (by decide)]
  show ((r.vs.map (endV (k : Int) 2)).filter _).map Ver.tid = _
  rw [List.filter_map, List.map_map]
  have e1 : r.vs.filter ((fun v => !Hp.stays m2 v) ∘ endV (k : Int) 2) = r.vs.filter (fun v => v.tid == k) := List.filter_congr (fun v hv => by
    show (!Hp.stays m2 (endV (k : Int) 2 v)) = _
    rw [h.stays k hv]; simp)
  rw [e1]
  have e2 : (r.vs.filter (fun v => v.tid == k)).map (Ver.tid ∘ endV (k : Int) 2) = (r.vs.map Ver.tid).filter (fun i => i == k) := by
    rw [List.filter_map]
    exact List.map_congr_left (fun v _ => endV_tid _ _ v)
  rw [e2]
  have e3 := h.tids
  unfold tidsL at e3
  rw [e3, range_filter, if_pos hk]
/-- Behind the vacuum: 511 versions, none of that number. -/
theorem Fm.left {r : R} (h : Fm 512 r) {k : Nat} (hk : k < 512) : (vacS m2 (delS r 2 (k : Int))).vs.length = 511 ∧ (vacS m2 (delS r 2 (k : Int))).nx = 512 ∧ ∀ v ∈ (vacS m2 (delS r 2 (k : Int))).vs, v.tid ≠ k := by
  have h1 : (delS r 2 (k : Int)).vs = r.vs.map (endV (k : Int) 2) := by unfold delS; rw [if_neg (by decide)]
  refine ⟨?_, ?_, fun v hv e => ?_⟩
  · have hp := parts_len m2 (delS r 2 (k : Int)).vs
    have hg := congrArg List.length (h.gone hk)
    unfold vacL at hg
    rw [tidsL_len] at hg
    have hl : (delS r 2 (k : Int)).vs.length = 512 := by rw [h1, List.length_map, h.len]
    show (stayL m2 (delS r 2 (k : Int)).vs).length = 511
    have : ([k] : List Nat).length = 1 := rfl
    omega
  · show (delS r 2 (k : Int)).nx = 512
    unfold delS; rw [if_neg (by decide)]; exact h.nx
  · have hv' : v ∈ stayL m2 (delS r 2 (k : Int)).vs := hv
    rw [h1] at hv'
    obtain ⟨hm, hs⟩ := List.mem_filter.1 hv'
    obtain ⟨u, hu, rfl⟩ := List.mem_map.1 hm
    rw [h.stays k hu] at hs
    rw [endV_tid] at e
    simp [e] at hs
theorem cellKeep {w w' : World} {g o : Nat} (h : w'.heap[g]? = w.heap[g]?) : w'.cell? ⟨g, o, none⟩ = w.cell? ⟨g, o, none⟩ := by simp [World.cell?, h]
/-- A row of one number that is none of the log's and none of the relation's. -/
def Kp (w : World) (b p g : Nat) (x : Int) : Prop := g < w.heap.size ∧ Fr w b g ∧ w.cell? ⟨g, 0, none⟩ = some (.int .i64 x) ∧ g ≠ p
theorem Kp.below {w w' : World} {b p g : Nat} {x : Int} (h : Kp w b p g x) (hb : Below w.heap.size w w') (hl : b < w.heap.size) : Kp w' b p g x :=
  ⟨Nat.lt_of_lt_of_le h.1 hb.size, ⟨h.2.1.1, fun sv hsv => h.2.1.2 sv (by rw [← hsv]; exact (cellKeep (hb.block b hl)).symm)⟩, (cellKeep (hb.block g h.1)).trans h.2.2.1, h.2.2.2⟩
theorem Kp.tch {w w' : World} {b p g : Nat} {x : Int} (h : Kp w b p g x) (hb : Mm.Tch p w w') (hl : b < w.heap.size) (hbp : b ≠ p) : Kp w' b p g x :=
  ⟨Nat.lt_of_lt_of_le h.1 hb.size, ⟨h.2.1.1, fun sv hsv => h.2.1.2 sv (by rw [← hsv]; exact (cellKeep (hb.block b hl hbp)).symm)⟩, (cellKeep (hb.block g h.1 h.2.2.2)).trans h.2.2.1, h.2.2.2⟩
theorem Kp.ins {w w' : World} {b p g : Nat} {x : Int} (h : Kp w b p g x) (hs : w.heap.size ≤ w'.heap.size) (hf : ∀ g, g < w.heap.size → Fr w b g → w'.heap[g]? = w.heap[g]? ∧ Fr w' b g) : Kp w' b p g x :=
  ⟨Nat.lt_of_lt_of_le h.1 hs, (hf g h.1 h.2.1).2, (cellKeep (hf g h.1 h.2.1).1).trans h.2.2.1, h.2.2.2⟩
theorem Kp.iin {w : World} {b p g : Nat} {x : Int} (h : Kp w b p g x) : Mm.IIn w (some ⟨g, 0, none⟩) [x] := fun j y hy => by
  match j, hy with
  | 0, hy => simp at hy; subst hy; exact ⟨g, 0, rfl, h.1, h.2.2.1⟩
theorem ins511 {r : R} (h1 : r.vs.length = 511) (h2 : r.nx = 512) : insE r 3 = 0 ∧ insA r 3 = 512 ∧ ∀ q d xs, insS r 3 q d xs = ⟨r.vs ++ [⟨512, 3, 0, q, d, xs⟩], 513⟩ := by
  have e1 : ¬ ((3 : Int) < 1) := by decide
  have e2 : ¬ (r.vs.length = 512 ∨ 65535 < r.nx) := by omega
  exact ⟨by unfold insE; rw [if_neg e1, if_neg e2], by unfold insA; rw [if_neg e1, if_neg e2, h2], fun q d xs => by unfold insS; rw [if_neg e1, if_neg e2, h2]⟩
theorem fnd511 {l : List Ver} {k : Nat} (h : ∀ v ∈ l, v.tid ≠ k) (hk : k ≠ 512) {q : Option Addr} {d : Nat} {xs : List Vl.V} : fnd (l ++ [⟨512, 3, 0, q, d, xs⟩]) (k : Int) = none := by
  unfold fnd
  rw [List.find?_eq_none]
  intro v hv
  rcases List.mem_append.1 hv with hv | hv
  · have := h v hv; simp; omega
  · rw [List.mem_singleton.1 hv]; simp; omega
end Hp

set_option maxRecDepth 100000 in
set_option maxHeartbeats 2000000 in
theorem heapMost_all (k : Nat) (w : World) (hk : k < 256) :
    Calls Try.prog 6 #[.int .u8 (k : Int)] w fun e w' => e = .returned (.bool true) ∧ Below w.heap.size w w' := by
  go_enter Try.func6, Try.ntmps6
  go_wp2_with fail
  refine (new_any w).mono ?_
  rintro e w1 ⟨rfl, hl, hb⟩
  obtain ⟨p, hp⟩ : ∃ p, p = w.heap.size := ⟨_, rfl⟩
  rw [← hp] at hl ⊢
  have HP := Vl.hid hp
  have HL1 := Vl.hid hl
  have HB1 := Vl.hid hb
  clear hl hb hp
  go_wp2_with fail
  refine (hnew_any w1 (p + 1) (by have := HL1.out.lt; omega)).mono ?_
  rintro e w2 ⟨rfl, hr, hb⟩
  obtain ⟨b, hbb⟩ : ∃ b, b = w1.heap.size := ⟨_, rfl⟩
  rw [← hbb] at hr ⊢
  have HR2 := Vl.hid hr
  have HL2 := Vl.hid (HL1.out.below hb)
  have HB2 := Vl.hid (HB1.out.trans (hb.mono HB1.out.size))
  clear hr hb hbb
  go_wp2_with fail
  refine (begin_any w2 p Cg.s0 false HL2 (by decide)).mono ?_
  rintro e w3 ⟨rfl, hl, hb⟩
  have HL3 : Hid (Mm.Lg w3 p Hp.a1) := Vl.hid hl
  have HR3 := Vl.hid (HR2.out.tch hb (Nat.lt_succ_self p))
  have HB3 := Vl.hid (HB2.out.trans (hb.bel (Nat.le_of_eq HP.out.symm) HB2.out.size))
  clear hl hb
  rw [show (Cg.begA Cg.s0 : Int) = 1 from rfl, show (Cg.begE Cg.s0 : Int) = 0 from rfl]
  go_wp2_with fail
  go_loopw [5] (fun vi wq => ∃ (j : Nat) (r : Hp.R), j ≤ 512 ∧ vi = .int .i64 (j : Int) ∧ Hid (Hp.Fm j r) ∧ Hid (Mm.Lg wq p Hp.a1) ∧ Hid (Hp.Rn wq (p + 1) b r) ∧ Hid (Below w.heap.size w wq)) (fun vi _ => 512 - (RowKit.intOf vi).toNat)
  case atStart => exact ⟨0, Hp.r0, by omega, rfl, Vl.hid Hp.Fm.start, HL3, HR3, HB3⟩
  case round =>
    clear HL3 HR3 HB3 HL2 HR2 HB2 HL1 HB1
    obtain ⟨j, r, hj, rfl, HM, HL, HR, HB⟩ := hrel
    rename World => wq
    by_cases hjm : j < 512
    · have i1 : (j : Int) < 512 := by omega
      have i3 : ((j : Int) != (j : Int)) = false := by simp
      obtain ⟨m1, m2, m3⟩ := HM.out.ins hjm
      have HM2 := Vl.hid m3
      have HI := Vl.hid HM.out.inv
      have HEA := Vl.hid (And.intro m1 m2)
      clear m1 m2 m3
      go_wp2_with fail
      refine (one_any (j : Int) wq).mono ?_
      rintro e w21 ⟨rfl, hrow, hb⟩
      have HO21 := Vl.hid hrow
      clear hrow
      have HL21 := Vl.hid (HL.out.below hb)
      have HR21 := Vl.hid (HR.out.below hb)
      have HB21 := Vl.hid (HB.out.trans (hb.mono HB.out.size))
      clear hb
      go_wp2_with fail
      refine (insert_any w21 (p + 1) b r 1 (some ⟨wq.heap.size, 0, none⟩) 1 [Hp.v1 (j : Int)] HR21 HI (by simp) (fun h => nomatch h) (Vl.hid (Hp.v1_small (j : Int))) HO21).mono ?_
      rintro e w22 ⟨q22, d22, rfl, hr, hb, hsz⟩
      have HR22 : Hid (Hp.Rn w22 (p + 1) b (Hp.insS r 1 q22 d22 [Hp.v1 (j : Int)])) := Vl.hid (hr)
      have HL22 := Vl.hid (HL21.out.keep (hb.block p (Nat.lt_succ_self p)))
      have HB22 := Vl.hid (HB21.out.trans (hb.mono (by have := HP.out; omega)))
      clear hr hb hsz
      rw [show (Hp.insA r 1 : Int) = (j : Int) from by rw [HEA.out.2], show (Hp.insE r 1 : Int) = 0 from by rw [HEA.out.1]; rfl]
      go_wp2_with fail
      exact ⟨⟨j + 1, _, by omega, by go_num, Vl.hid (HM2.out _ _ _), HL22, HR22, HB22⟩, by simp [RowKit.intOf]; omega⟩
    · obtain rfl : j = 512 := by omega
      have HI := Vl.hid HM.out.inv
      have HFU := Vl.hid (HM.out.full 1 (by decide))
      go_wp2_with fail
      refine (insert_any wq (p + 1) b r 1 none 0 [] HR HI (by decide) (fun _ => ⟨rfl, rfl⟩) (Vl.hid (fun v hv => nomatch hv)) (Vl.hid (Or.inl rfl))).mono ?_
      rintro e w41 ⟨q41, d41, rfl, hr, hb, hsz⟩
      have HR41 : Hid (Hp.Rn w41 (p + 1) b r) := Vl.hid ((by have := hr; rwa [HFU.out.2] at this))
      have HL41 := Vl.hid (HL.out.keep (hb.block p (Nat.lt_succ_self p)))
      have HB41 := Vl.hid (HB.out.trans (hb.mono (by have := HP.out; omega)))
      clear hr hb hsz
      rw [show (Hp.insE r 1 : Int) = 74 from by rw [HFU.out.1]; rfl]
      go_wp2_with fail
      refine (commit_any w41 p Hp.a1 1 HL41 (by decide) (by decide)).mono ?_
      rintro e w42 ⟨rfl, hl, hb⟩
      have HL42 : Hid (Mm.Lg w42 p (Cg.comS Hp.a1 1)) := Vl.hid hl
      have HR42 := Vl.hid (HR41.out.tch hb (Nat.lt_succ_self p))
      have HB42 := Vl.hid (HB41.out.trans (hb.bel (Nat.le_of_eq HP.out.symm) HB41.out.size))
      clear hl hb
      go_wp2_with fail
      refine (begin_any w42 p (Cg.comS Hp.a1 1) false HL42 (by decide)).mono ?_
      rintro e w43 ⟨rfl, hl, hb⟩
      have HL43 : Hid (Mm.Lg w43 p Hp.m1) := Vl.hid hl
      have HR43 := Vl.hid (HR42.out.tch hb (Nat.lt_succ_self p))
      have HB43 := Vl.hid (HB42.out.trans (hb.bel (Nat.le_of_eq HP.out.symm) HB42.out.size))
      clear hl hb
      go_wp2_with fail
      have HFN := Vl.hid (HM.out.fnd (k := k) (by omega))
      refine (delete_any w43 (p + 1) b r 2 (k : Int) HR43 HI).mono ?_
      rintro e w44 ⟨rfl, hr, hb, hsz⟩
      have HR44 : Hid (Hp.Rn w44 (p + 1) b (Hp.delS r 2 (k : Int))) := Vl.hid hr
      have HL44 := Vl.hid (HL43.out.keep (hb.block p (Nat.lt_succ_self p)))
      have HB44 := Vl.hid (HB43.out.trans (hb.mono (by have := HP.out; omega)))
      clear hr hb hsz
      rw [show (Hp.delE r 2 (k : Int) : Int) = 0 from by unfold Hp.delE; rw [HFN.out]; rfl]
      go_wp2_with fail
      refine (commit_any w44 p Hp.m1 2 HL44 (by decide) (by decide)).mono ?_
      rintro e w45 ⟨rfl, hl, hb⟩
      have HL45 : Hid (Mm.Lg w45 p Hp.m2) := Vl.hid hl
      have HR45 := Vl.hid (HR44.out.tch hb (Nat.lt_succ_self p))
      have HB45 := Vl.hid (HB44.out.trans (hb.bel (Nat.le_of_eq HP.out.symm) HB44.out.size))
      clear hl hb
      go_wp2_with fail
      have HI3 : Hid (Hp.Inv (Hp.delS r 2 (k : Int))) := Vl.hid (HI.out.delS 2 _)
      have HI4 : Hid (Hp.Inv (Hp.vacS Hp.m2 (Hp.delS r 2 (k : Int)))) := Vl.hid (HI3.out.vacS _)
      have HLE := Vl.hid (HM.out.left (k := k) (by omega))
      have HGO := Vl.hid (HM.out.gone (k := k) (by omega))
      refine (vacuum_fr w45 (p + 1) b (.pointer (some ⟨p, 0, none⟩)) (Hp.delS r 2 (k : Int)) Hp.m2 HR45 HI3 (Vl.hid (show Mm.Lv w45 (.pointer (some ⟨p, 0, none⟩)) Hp.m2 from Or.inl ⟨p, rfl, HL45.out⟩)) (Vl.hid Hp.m2_inv)).mono ?_
      rintro e w46 ⟨v46, rfl, ho, hr, hb, hfr⟩
      rw [HGO.out] at ho
      obtain ⟨g46, c46, rfl, -, hcell, -, -⟩ := ho.at (i := 0) (u := .int .i64 ((k : Int))) rfl
      have HK46 : Hid (Hp.Kp w46 b p g46 ((k : Int))) := Vl.hid ⟨(hfr _ rfl).2.1, (hfr _ rfl).2.2, hcell, by have h1 : w45.heap.size ≤ g46 := (hfr _ rfl).1; have := HL45.out.lt; omega⟩
      have HR46 : Hid (Hp.Rn w46 (p + 1) b (Hp.vacS Hp.m2 (Hp.delS r 2 (k : Int)))) := Vl.hid hr
      have HL46 := Vl.hid (HL45.out.keep (hb.block p HL45.out.lt (Nat.ne_of_lt (Nat.lt_of_lt_of_le (Nat.lt_succ_self p) HR45.out.lt.2))))
      have HB46 := Vl.hid (HB45.out.trans (hb.bel (Nat.le_of_lt (Nat.lt_of_le_of_lt (Nat.le_of_eq HP.out.symm) (Nat.lt_of_lt_of_le (Nat.lt_succ_self p) HR45.out.lt.2))) HB45.out.size))
      clear ho hr hb hfr hcell
      go_wp2_with fail
      refine (begin_any w46 p Hp.m2 false HL46 (by decide)).mono ?_
      rintro e w47 ⟨rfl, hl, hb⟩
      have HL47 : Hid (Mm.Lg w47 p Hp.m3) := Vl.hid hl
      have HR47 := Vl.hid (HR46.out.tch hb (Nat.lt_succ_self p))
      have HB47 := Vl.hid (HB46.out.trans (hb.bel (Nat.le_of_eq HP.out.symm) HB46.out.size))
      have HK47 := Vl.hid (HK46.out.tch hb HR46.out.lt.1 (by have := HR46.out.lt.2; omega))
      clear hl hb
      go_wp2_with fail
      refine (one_any 1 w47).mono ?_
      rintro e w48 ⟨rfl, hrow, hb⟩
      have HO48 := Vl.hid hrow
      clear hrow
      have HL48 := Vl.hid (HL47.out.below hb)
      have HR48 := Vl.hid (HR47.out.below hb)
      have HB48 := Vl.hid (HB47.out.trans (hb.mono HB47.out.size))
      have HK48 := Vl.hid (HK47.out.below hb HR47.out.lt.1)
      clear hb
      go_wp2_with fail
      obtain ⟨r4, hr4⟩ : ∃ r4, r4 = Hp.vacS Hp.m2 (Hp.delS r 2 (k : Int)) := ⟨_, rfl⟩
      rw [← hr4] at HI4 HLE
      have HR4 := Vl.hid hr4
      clear hr4
      have HN5 : Hid (Hp.insE r4 3 = 0 ∧ Hp.insA r4 3 = 512 ∧ ∀ q d xs, Hp.insS r4 3 q d xs = ⟨r4.vs ++ [⟨512, 3, 0, q, d, xs⟩], 513⟩) := Vl.hid (Hp.ins511 HLE.out.1 HLE.out.2.1)
      have HRr : Hid (Hp.Rn w48 (p + 1) b r4) := Vl.hid (by rw [HR4.out]; exact HR48.out)
      refine (insert_fr w48 (p + 1) b r4 3 (some ⟨w47.heap.size, 0, none⟩) 1 [Hp.v1 1] HRr HI4 (by simp) (fun h => nomatch h) (Vl.hid (Hp.v1_small 1)) HO48).mono ?_
      rintro e w49 ⟨q49, d49, rfl, hr, hb, hsz⟩
      have HR49 : Hid (Hp.Rn w49 (p + 1) b ⟨r4.vs ++ [⟨512, 3, 0, q49, d49, [Hp.v1 1]⟩], 513⟩) := Vl.hid ((by have := hr; rwa [HN5.out.2.2] at this))
      have HL49 := Vl.hid (HL48.out.keep (hb.block p (Nat.lt_succ_self p)))
      have HB49 := Vl.hid (HB48.out.trans (hb.mono (by have := HP.out; omega)))
      have HK49 := Vl.hid (HK48.out.ins hsz.1 hsz.2)
      clear hr hb hsz
      rw [show (Hp.insA r4 3 : Int) = 512 from by rw [HN5.out.2.1]; rfl, show (Hp.insE r4 3 : Int) = 0 from by rw [HN5.out.1]; rfl]
      go_wp2_with fail
      obtain ⟨r5, hr5⟩ : ∃ r5 : Hp.R, r5 = ⟨r4.vs ++ [⟨512, 3, 0, q49, d49, [Hp.v1 1]⟩], 513⟩ := ⟨_, rfl⟩
      have HI5 : Hid (Hp.Inv r5) := Vl.hid (by rw [hr5, ← HN5.out.2.2]; exact HI4.out.insS _ _ _ _)
      have HF5 : Hid (Hp.fnd r5.vs (k : Int) = none) := Vl.hid (by rw [hr5]; exact Hp.fnd511 HLE.out.2.2 (by omega))
      have HN6 : Hid (r5.vs.length = 512) := Vl.hid (by rw [hr5]; show (r4.vs ++ [_]).length = 512; rw [List.length_append, HLE.out.1]; rfl)
      rw [← hr5] at HR49
      clear hr5
      refine (get_any w49 (p + 1) (.pointer (some ⟨b, 0, none⟩)) r5 (k : Int) (Vl.hid (show Hp.Rv w49 (p + 1) (.pointer (some ⟨b, 0, none⟩)) r5 from Or.inl ⟨b, rfl, HR49.out⟩)) HI5).mono ?_
      rintro e w50 ⟨pg, cg, rfl, -, hb⟩
      have HL50 := Vl.hid (HL49.out.below hb)
      have HR50 := Vl.hid (HR49.out.below hb)
      have HB50 := Vl.hid (HB49.out.trans (hb.mono HB49.out.size))
      have HK50 := Vl.hid (HK49.out.below hb HR49.out.lt.1)
      clear hb
      rw [show Hp.fndD r5.vs (k : Int) = Hp.v0 from by unfold Hp.fndD; rw [HF5.out]; rfl, show (Hp.fnd r5.vs (k : Int)).isSome = false from by rw [HF5.out]; rfl]
      go_wp2_with fail
      have HBA : Hid (Below w50.heap.size w50 ((w50.alloc (.cells #[.int .i64 Hp.v0.xmin, .int .i64 Hp.v0.xmax, .slice pg Hp.v0.xs.length cg] 79)).alloc (.cells #[.int .i64 (k : Int)] 3))) := Vl.hid (((Below.refl _ _).alloc (Nat.le_refl _) _).alloc (by simp) _)
      refine (ints_gen [(k : Int)] [(k : Int)] (some ⟨g46, 0, none⟩) (some ⟨w50.heap.size + 1, 0, none⟩) 1 1 c46 1 _ (Vl.hid (HK50.out.below HBA.out HR50.out.lt.1).iin) (Vl.hid (Mm.iin_one (Mm.newAt (w50.alloc (.cells #[.int .i64 Hp.v0.xmin, .int .i64 Hp.v0.xmax, .slice pg Hp.v0.xs.length cg] 79)) _ (by simp)))) (Vl.hid rfl) (Vl.hid rfl) (by simp)).mono ?_
      rintro e w70 ⟨rfl, hb'⟩
      have hb := HBA.out.trans (hb'.mono HBA.out.size)
      clear hb'
      have HL70 := Vl.hid (HL50.out.below hb)
      have HR70 := Vl.hid (HR50.out.below hb)
      have HB70 := Vl.hid (HB50.out.trans (hb.mono HB50.out.size))
      clear hb
      rw [show decide ([(k : Int)] = [(k : Int)]) = true from decide_eq_true rfl]
      go_wp2_with fail
      refine (all_any w70 (p + 1) (.pointer (some ⟨b, 0, none⟩)) r5 (Vl.hid (show Hp.Rv w70 (p + 1) (.pointer (some ⟨b, 0, none⟩)) r5 from Or.inl ⟨b, rfl, HR70.out⟩)) HI5).mono ?_
      rintro e w71 ⟨v71, rfl, ho, hb⟩
      obtain ⟨q71, c71, h71, -, -, -, -⟩ := ho.shape
      rw [Mm.nts_len, Hp.tidsL_len, HN6.out] at h71
      subst h71
      clear ho
      have HL71 := Vl.hid (HL70.out.below hb)
      have HR71 := Vl.hid (HR70.out.below hb)
      have HB71 := Vl.hid (HB70.out.trans (hb.mono HB70.out.size))
      clear hb
      go_wp2_with fail
      refine (wakes_any w71).mono ?_
      rintro e w51 ⟨rfl, hb⟩
      have HB51 := Vl.hid (HB71.out.trans (hb.mono HB71.out.size))
      clear hb
      go_wp2_with fail
      go_ret
      exact ⟨rfl, HB51.out⟩
end Go.Proofs.Ytoobljkjhpkghaa
