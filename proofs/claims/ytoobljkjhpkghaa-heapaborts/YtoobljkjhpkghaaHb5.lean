/- HeapAborts. -/
import Derived.Test.YtoobljkjhpkghaaHb4
import Derived.Test.YtoobljkjhpkghaaHop
namespace Go.Proofs.Ytoobljkjhpkghaa
open Go.RowKit

namespace Hp
/-- k versions by 1, then those by 2; 2 alone has ended any. -/
structure Ab (k : Nat) (r : R) : Prop where
  inv : Inv r
  nx : r.nx = r.vs.length
  le : k ≤ r.vs.length
  at_ : ∀ (i : Nat) (v : Ver), r.vs[i]? = some v → v.tid = i ∧ v.xmin = (if i < k then 1 else 2) ∧ (v.xmax = 0 ∨ v.xmax = 2)
theorem Ab.start {k : Nat} {r : R} (h : Fm k r) : Ab k r :=
  ⟨h.inv, by rw [h.nx, h.len], Nat.le_of_eq h.len.symm, fun i v hv => by
    obtain ⟨a, b, c⟩ := h.at_ i v hv
    have := (List.getElem?_eq_some_iff.1 hv).1
    exact ⟨a, by rw [b, if_pos (by rw [← h.len]; exact this)], Or.inl c⟩⟩
theorem Ab.ins {k : Nat} {r : R} (h : Ab k r) (q : Option Addr) (d : Nat) (xs : List Vl.V) : Ab k (insS r 2 q d xs) := by
  have hi := h.inv.insS 2 q d xs
  unfold insS at hi ⊢
  rw [if_neg (by decide)] at hi ⊢
  split at hi
  · rename_i e; rw [if_pos e]; exact h
  · rename_i e
    rw [if_neg e]
    refine ⟨hi, ?_, ?_, fun i v hv => ?_⟩
    · show r.nx + 1 = (r.vs ++ [_]).length
      rw [List.length_append, h.nx]; rfl
    · show k ≤ (r.vs ++ [_]).length
      rw [List.length_append]; have := h.le; omega
    · have hv' : (r.vs ++ [⟨r.nx, 2, 0, q, d, xs⟩])[i]? = some v := hv
      by_cases e2 : i < r.vs.length
      · rw [List.getElem?_append_left e2] at hv'
        exact h.at_ i v hv'
      · rw [List.getElem?_append_right (by omega)] at hv'
        have h0 : i - r.vs.length = 0 := by
          have := (List.getElem?_eq_some_iff.1 hv').1
          simp at this; omega
        rw [h0] at hv'
        simp at hv'
        subst hv'
        have := h.le
        exact ⟨by show r.nx = i; rw [h.nx]; omega, by rw [if_neg (by omega)], Or.inl rfl⟩
theorem Ab.del {k : Nat} {r : R} (h : Ab k r) (t : Int) : Ab k (delS r 2 t) := by
  have hi := h.inv.delS 2 t
  unfold delS at hi ⊢
  rw [if_neg (by decide)] at hi ⊢
  refine ⟨hi, ?_, ?_, fun i v hv => ?_⟩
  · show r.nx = (r.vs.map _).length
    rw [List.length_map]; exact h.nx
  · show k ≤ (r.vs.map _).length
    rw [List.length_map]; exact h.le
  · have hv' : (r.vs.map (endV t 2))[i]? = some v := hv
    rw [List.getElem?_map] at hv'
    cases hu : r.vs[i]? with
    | none => rw [hu] at hv'; cases hv'
    | some u =>
      rw [hu] at hv'
      have e : v = endV t 2 u := by simpa using hv'.symm
      obtain ⟨a, b, c⟩ := h.at_ i u hu
      subst e
      refine ⟨(endV_tid t 2 u).trans a, (endV_xs t 2 u).2.2.2.trans b, ?_⟩
      unfold endV
      split
      · exact Or.inr rfl
      · exact c
theorem range_less (k : Nat) : ∀ n, k ≤ n → (List.range n).filter (fun i => decide (i < k)) = List.range k
  | 0, h => by have : k = 0 := by omega
               subst this; rfl
  | n + 1, h => by
    rw [List.range_succ, List.filter_append]
    by_cases e : k = n + 1
    · subst e
      rw [List.range_succ]
      congr 1
      · exact List.filter_eq_self.2 (fun i hi => by have := List.mem_range.1 hi; simp; omega)
      · simp
    · rw [range_less k n (by omega)]
      have : ¬ n < k := by omega
      simp [this]
theorem Ab.tids {k : Nat} {r : R} (h : Ab k r) : tidsL r.vs = List.range r.vs.length := by
  apply List.ext_getElem?
  intro i
  unfold tidsL
  rw [List.getElem?_map]
  by_cases e : i < r.vs.length
  · obtain ⟨v, hv⟩ : ∃ v, r.vs[i]? = some v := ⟨_, List.getElem?_eq_getElem e⟩
    rw [hv, List.getElem?_range e]
    exact congrArg some (h.at_ i v hv).1
  · rw [List.getElem?_eq_none (by omega), List.getElem?_eq_none (by simp; omega)]
    rfl
theorem Ab.vis {k : Nat} {r : R} (h : Ab k r) {s : Cg.S} {x : Int} (h1 : ∀ v : Ver, v.xmin = 1 → v.xmax = 0 ∨ v.xmax = 2 → seen s x v = true) (h2 : ∀ v : Ver, v.xmin = 2 → seen s x v = false) : visL s x r.vs = List.range k := by
  have e1 : r.vs.filter (seen s x) = r.vs.filter (fun v => decide (v.tid < k)) := List.filter_congr (fun v hv => by
    obtain ⟨i, hi⟩ := List.getElem?_of_mem hv
    obtain ⟨a, b, c⟩ := h.at_ i v hi
    by_cases e : i < k
    · rw [if_pos e] at b
      rw [h1 v b c, decide_eq_true (by omega)]
    · rw [if_neg e] at b
      rw [h2 v b, decide_eq_false (by omega)])
  unfold visL tidsL
  rw [e1]
  have e2 : (r.vs.filter (fun v => decide (v.tid < k))).map Ver.tid = (r.vs.map Ver.tid).filter (fun i => decide (i < k)) := by
    rw [List.filter_map]; rfl
  have e3 := h.tids
  unfold tidsL at e3
  rw [e2, e3, range_less k _ h.le]
def h3 : Cg.S := Cg.begS (Cg.begS (Cg.comS a1 1) false) false
def h4 : Cg.S := Cg.aboS h3 2
def h5 : Cg.S := Cg.begS h4 true
theorem h3_inv : Cg.Inv h3 := (((Cg.inv0.begS false).comS 1).begS false).begS false
theorem h5_inv : Cg.Inv h5 := (h3_inv.aboS 2).begS true
theorem seen_eq (s : Cg.S) (x : Int) (v : Ver) {a b : Int} (ha : v.xmin = a) (hb : v.xmax = b) : seen s x v = (Cg.sees s x a && !((Cg.gt s b).st != 3 && Cg.sees s x b)) := by unfold seen; rw [ha, hb]
theorem not_seen (s : Cg.S) (x : Int) (v : Ver) {a : Int} (ha : v.xmin = a) (h : Cg.sees s x a = false) : seen s x v = false := by unfold seen; rw [ha, h]; rfl
theorem Ab.v3 {k : Nat} {r : R} (h : Ab k r) : visL h3 3 r.vs = List.range k := h.vis (fun v ha hb => by
  rcases hb with hb | hb <;> rw [seen_eq _ _ _ ha hb] <;> kernel_rfl) (fun v ha => not_seen _ _ _ ha (by kernel_rfl))
theorem Ab.w3 {k : Nat} {r : R} (h : Ab k r) : visL h5 3 r.vs = List.range k := h.vis (fun v ha hb => by
  rcases hb with hb | hb <;> rw [seen_eq _ _ _ ha hb] <;> kernel_rfl) (fun v ha => not_seen _ _ _ ha (by kernel_rfl))
theorem Ab.w4 {k : Nat} {r : R} (h : Ab k r) : visL h5 4 r.vs = List.range k := h.vis (fun v ha hb => by
  rcases hb with hb | hb <;> rw [seen_eq _ _ _ ha hb] <;> kernel_rfl) (fun v ha => not_seen _ _ _ ha (by kernel_rfl))
theorem Ab.uns {k : Nat} {r : R} (h : Ab k r) {i : Nat} (hi : i < k) : unsL h5 r 3 (i : Int) = [] := by
  obtain ⟨v, hv⟩ : ∃ v, r.vs[i]? = some v := ⟨_, List.getElem?_eq_getElem (Nat.lt_of_lt_of_le hi h.le)⟩
  obtain ⟨a, b, c⟩ := h.at_ i v hv
  rw [if_pos hi] at b
  have hf : fnd r.vs (i : Int) = some v := by rw [← a]; exact fnd_at h.inv.up hv
  unfold unsL fndD whoV
  rw [hf]
  show (if true = false then [] else if (if Cg.sees h5 3 v.xmin = true then v.xmax else v.xmin) = 0 then [] else if (Cg.gt h5 (if Cg.sees h5 3 v.xmin = true then v.xmax else v.xmin)).st = 3 then [] else if Cg.sees h5 3 (if Cg.sees h5 3 v.xmin = true then v.xmax else v.xmin) = true then [] else [(if Cg.sees h5 3 v.xmin = true then v.xmax else v.xmin)]) = []
  rw [b]
  rcases c with c | c <;> rw [c] <;> kernel_rfl
end Hp

set_option maxRecDepth 100000 in
set_option maxHeartbeats 4000000 in
theorem heapAborts_all (n : Nat) (pa : Option Addr) (l c : Nat) (xs : List Nat) (w : World) (hn : n < 256) (hx : Cg.U8s w pa l c xs) :
    Calls Try.prog 8 #[.int .u8 (n : Int), .slice pa l c] w fun e w' => e = .returned (.bool true) ∧ Below w.heap.size w w' := by
  have HX := Vl.hid hx
  clear hx
  go_enter Try.func8, Try.ntmps8
  go_wp2_with fail
  refine (new_any w).mono ?_
  rintro e w1 ⟨rfl, hl, hb⟩
  obtain ⟨p, hp⟩ : ∃ p, p = w.heap.size := ⟨_, rfl⟩
  rw [← hp] at hl ⊢
  have HP := Vl.hid hp
  have HL1 := Vl.hid hl
  have HB1 := Vl.hid hb
  clear hl hb hp
  go_wp2_with fail
  refine (hnew_any w1 (p + 1) (by have := HL1.out.lt; omega)).mono ?_
  rintro e w2 ⟨rfl, hr, hb⟩
  obtain ⟨b, hbb⟩ : ∃ b, b = w1.heap.size := ⟨_, rfl⟩
  rw [← hbb] at hr ⊢
  have HR2 := Vl.hid hr
  have HL2 := Vl.hid (HL1.out.below hb)
  have HB2 := Vl.hid (HB1.out.trans (hb.mono HB1.out.size))
  clear hr hb hbb
  by_cases h60 : l ≤ 60
  · have g60 : ¬ (60 : Int) < (l : Int) := by omega
    go_wp2_with fail
    refine (begin_any w2 p Cg.s0 false HL2 (by decide)).mono ?_
    rintro e w3 ⟨rfl, hl, hb⟩
    have HL3 : Hid (Mm.Lg w3 p Hp.a1) := Vl.hid hl
    have HR3 := Vl.hid (HR2.out.tch hb (Nat.lt_succ_self p))
    have HB3 := Vl.hid (HB2.out.trans (hb.bel (Nat.le_of_eq HP.out.symm) HB2.out.size))
    clear hl hb
    rw [show (Cg.begA Cg.s0 : Int) = 1 from rfl, show (Cg.begE Cg.s0 : Int) = 0 from rfl]
    go_wp2_with fail
    obtain ⟨K, hK⟩ : ∃ K, K = n % 30 := ⟨_, rfl⟩
    have hK30 : K < 30 := by omega
    have hKi : (n : Int) % 30 = (K : Int) := by omega
    rw [hKi]
    clear hK hKi
    go_loopw [8] (fun vi wq => ∃ (j : Nat) (r : Hp.R), j ≤ K ∧ vi = .int .i64 (j : Int) ∧ Hid (Hp.Fm j r) ∧ Hid (Mm.Lg wq p Hp.a1) ∧ Hid (Hp.Rn wq (p + 1) b r) ∧ Hid (Below w.heap.size w wq)) (fun vi _ => K - (RowKit.intOf vi).toNat)
    case atStart => exact ⟨0, Hp.r0, by omega, rfl, Vl.hid Hp.Fm.start, HL3, HR3, HB3⟩
    case round =>
      clear HL3 HR3 HB3 HL2 HR2 HB2 HL1 HB1
      obtain ⟨j, r, hj, rfl, HM, HL, HR, HB⟩ := hrel
      rename World => wq
      by_cases hjm : j < K
      · have i1 : (j : Int) < (K : Int) := by omega
        obtain ⟨m1, m2, m3⟩ := HM.out.ins (by omega)
        have HM2 := Vl.hid m3
        have HI := Vl.hid HM.out.inv
        have HEA := Vl.hid (And.intro m1 m2)
        clear m1 m2 m3
        go_wp2_with fail
        refine (one_any (j : Int) wq).mono ?_
        rintro e w21 ⟨rfl, hrow, hb⟩
        have HO21 := Vl.hid hrow
        clear hrow
        have HL21 := Vl.hid (HL.out.below hb)
        have HR21 := Vl.hid (HR.out.below hb)
        have HB21 := Vl.hid (HB.out.trans (hb.mono HB.out.size))
        clear hb
        go_wp2_with fail
        refine (insert_any w21 (p + 1) b r 1 (some ⟨wq.heap.size, 0, none⟩) 1 [Hp.v1 (j : Int)] HR21 HI (by simp) (fun h => nomatch h) (Vl.hid (Hp.v1_small (j : Int))) HO21).mono ?_
        rintro e w22 ⟨q22, d22, rfl, hr, hb, hsz⟩
        have HR22 : Hid (Hp.Rn w22 (p + 1) b (Hp.insS r 1 q22 d22 [Hp.v1 (j : Int)])) := Vl.hid (hr)
        have HL22 := Vl.hid (HL21.out.keep (hb.block p (Nat.lt_succ_self p)))
        have HB22 := Vl.hid (HB21.out.trans (hb.mono (by have := HP.out; omega)))
        clear hr hb hsz
        rw [show (Hp.insE r 1 : Int) = 0 from by rw [HEA.out.1]; rfl]
        go_wp2_with fail
        exact ⟨⟨j + 1, _, by omega, by go_num, Vl.hid (HM2.out _ _ _), HL22, HR22, HB22⟩, by simp [RowKit.intOf]; omega⟩
      · obtain rfl : j = K := by omega
        have HAB := Vl.hid (Hp.Ab.start HM.out)
        go_wp2_with fail
        refine (commit_any wq p Hp.a1 1 HL (by decide) (by decide)).mono ?_
        rintro e w41 ⟨rfl, hl, hb⟩
        have HL41 : Hid (Mm.Lg w41 p (Cg.comS Hp.a1 1)) := Vl.hid hl
        have HR41 := Vl.hid (HR.out.tch hb (Nat.lt_succ_self p))
        have HB41 := Vl.hid (HB.out.trans (hb.bel (Nat.le_of_eq HP.out.symm) HB.out.size))
        clear hl hb
        go_wp2_with fail
        refine (begin_any w41 p (Cg.comS Hp.a1 1) false HL41 (by decide)).mono ?_
        rintro e w42 ⟨rfl, hl, hb⟩
        have HL42 : Hid (Mm.Lg w42 p (Cg.begS (Cg.comS Hp.a1 1) false)) := Vl.hid hl
        have HR42 := Vl.hid (HR41.out.tch hb (Nat.lt_succ_self p))
        have HB42 := Vl.hid (HB41.out.trans (hb.bel (Nat.le_of_eq HP.out.symm) HB41.out.size))
        clear hl hb
        go_wp2_with fail
        refine (begin_any w42 p (Cg.begS (Cg.comS Hp.a1 1) false) false HL42 (by decide)).mono ?_
        rintro e w43 ⟨rfl, hl, hb⟩
        have HL43 : Hid (Mm.Lg w43 p Hp.h3) := Vl.hid hl
        have HR43 := Vl.hid (HR42.out.tch hb (Nat.lt_succ_self p))
        have HB43 := Vl.hid (HB42.out.trans (hb.bel (Nat.le_of_eq HP.out.symm) HB42.out.size))
        clear hl hb
        go_wp2_with fail
        have i3 : ((j : Int) != (j : Int)) = false := by simp
        go_loopw [11] (fun vi wq => ∃ (i : Nat) (r : Hp.R), i ≤ l ∧ vi = .int .i64 (i : Int) ∧ Hid (Hp.Ab j r) ∧ Hid (Mm.Lg wq p Hp.h3) ∧ Hid (Hp.Rn wq (p + 1) b r) ∧ Hid (Below w.heap.size w wq)) (fun vi _ => l - (RowKit.intOf vi).toNat)
        case atStart => exact ⟨0, r, by omega, rfl, HAB, HL43, HR43, HB43⟩
        case round =>
          clear HL41 HR41 HB41 HL42 HR42 HB42 HL43 HR43 HB43
          obtain ⟨i, r, hi, rfl, HAB, HL, HR, HB⟩ := hrel
          rename World => wq
          have HI := Vl.hid HAB.out.inv
          by_cases him : i < l
          · obtain ⟨x, hx⟩ : ∃ x, xs[i]? = some x := ⟨xs[i]'(by rw [HX.out.len]; exact him), List.getElem?_eq_getElem _⟩
            obtain ⟨hx1, bx, ox, rfl, hbx, hcx⟩ := HX.out.at_ i x hx
            have HCX := Vl.hid (And.intro hbx hcx)
            have d0 : wq.cell? ⟨bx, ox + i, none⟩ = some (.int .u8 (x : Int)) := (HB.out.cell (p := ⟨bx, ox + i, none⟩) hbx).trans hcx
            have j1 : (i : Int) < (l : Int) := by omega
            have j2 : (0 : Int) ≤ (i : Int) := by omega
            clear hx hbx hcx
            by_cases h2 : x % 2 = 0
            · have g2 : ((x : Int) % 2 == 0) = true := by simp; omega
              clear h2
              go_wp2_with fail
              refine (one_any (x : Int) wq).mono ?_
              rintro e w61 ⟨rfl, hrow, hb⟩
              have HO61 := Vl.hid hrow
              clear hrow
              have HL61 := Vl.hid (HL.out.below hb)
              have HR61 := Vl.hid (HR.out.below hb)
              have HB61 := Vl.hid (HB.out.trans (hb.mono HB.out.size))
              clear hb
              go_wp2_with fail
              refine (insert_any w61 (p + 1) b r 2 (some ⟨wq.heap.size, 0, none⟩) 1 [Hp.v1 (x : Int)] HR61 HI (by simp) (fun h => nomatch h) (Vl.hid (Hp.v1_small (x : Int))) HO61).mono ?_
              rintro e w62 ⟨q62, d62, rfl, hr, hb, hsz⟩
              have HR62 : Hid (Hp.Rn w62 (p + 1) b (Hp.insS r 2 q62 d62 [Hp.v1 (x : Int)])) := Vl.hid (hr)
              have HL62 := Vl.hid (HL61.out.keep (hb.block p (Nat.lt_succ_self p)))
              have HB62 := Vl.hid (HB61.out.trans (hb.mono (by have := HP.out; omega)))
              clear hr hb hsz
              go_wp2_with fail
              refine (visible_any w62 (p + 1) (.pointer (some ⟨b, 0, none⟩)) (.pointer (some ⟨p, 0, none⟩)) (Hp.insS r 2 q62 d62 [Hp.v1 (x : Int)]) Hp.h3 3 (Vl.hid (show Hp.Rv w62 (p + 1) (.pointer (some ⟨b, 0, none⟩)) (Hp.insS r 2 q62 d62 [Hp.v1 (x : Int)]) from Or.inl ⟨b, rfl, HR62.out⟩)) (Vl.hid (HAB.out.ins q62 d62 [Hp.v1 (x : Int)]).inv) (Vl.hid (show Mm.Lv w62 (.pointer (some ⟨p, 0, none⟩)) Hp.h3 from Or.inl ⟨p, rfl, HL62.out⟩)) (by decide)).mono ?_
              rintro e w63 ⟨v63, rfl, ho, hb⟩
              rw [(HAB.out.ins q62 d62 [Hp.v1 (x : Int)]).v3] at ho
              obtain ⟨q63, c63, h63, -, -, -, -⟩ := ho.shape
              rw [Mm.nts_len, List.length_range] at h63
              subst h63
              have HO63 := Vl.hid ho
              have HBX63 := Vl.hid hb
              clear ho
              have HL63 := Vl.hid (HL62.out.below hb)
              have HR63 := Vl.hid (HR62.out.below hb)
              have HB63 := Vl.hid (HB62.out.trans (hb.mono HB62.out.size))
              clear hb
              go_wp2_with fail
              exact ⟨⟨i + 1, (Hp.insS r 2 q62 d62 [Hp.v1 (x : Int)]), by omega, by go_num, Vl.hid (HAB.out.ins q62 d62 [Hp.v1 (x : Int)]), HL63, HR63, HB63⟩, by simp [RowKit.intOf]; omega⟩
            · have g2 : ((x : Int) % 2 == 0) = false := by simp; omega
              clear h2
              go_wp2_with fail
              refine (may_any wq (p + 1) b (.pointer (some ⟨p, 0, none⟩)) r Hp.h3 2 (x : Int) HR HI (Vl.hid (show Mm.Lv wq (.pointer (some ⟨p, 0, none⟩)) Hp.h3 from Or.inl ⟨p, rfl, HL.out⟩)) (by decide)).mono ?_
              rintro e w71 ⟨rfl, hb⟩
              have HL71 := Vl.hid (HL.out.below hb)
              have HR71 := Vl.hid (HR.out.below hb)
              have HB71 := Vl.hid (HB.out.trans (hb.mono HB.out.size))
              clear hb
              have d1 : w71.cell? ⟨bx, ox + i, none⟩ = some (.int .u8 (x : Int)) := (HB71.out.cell (p := ⟨bx, ox + i, none⟩) HCX.out.1).trans HCX.out.2
              obtain ⟨E, hE⟩ : ∃ E, E = Hp.mayE Hp.h3 r 2 (x : Int) := ⟨_, rfl⟩
              rw [← hE]
              clear hE d0
              by_cases hE0 : E = 0
              · have gE : ((E : Int) == 0) = true := by simp; omega
                clear hE0
                go_wp2_with fail
                refine (delete_any w71 (p + 1) b r 2 (x : Int) HR71 HI).mono ?_
                rintro e w81 ⟨rfl, hr, hb, hsz⟩
                have HR81 : Hid (Hp.Rn w81 (p + 1) b (Hp.delS r 2 (x : Int))) := Vl.hid hr
                have HL81 := Vl.hid (HL71.out.keep (hb.block p (Nat.lt_succ_self p)))
                have HB81 := Vl.hid (HB71.out.trans (hb.mono (by have := HP.out; omega)))
                clear hr hb hsz
                go_wp2_with fail
                refine (visible_any w81 (p + 1) (.pointer (some ⟨b, 0, none⟩)) (.pointer (some ⟨p, 0, none⟩)) (Hp.delS r 2 (x : Int)) Hp.h3 3 (Vl.hid (show Hp.Rv w81 (p + 1) (.pointer (some ⟨b, 0, none⟩)) (Hp.delS r 2 (x : Int)) from Or.inl ⟨b, rfl, HR81.out⟩)) (Vl.hid (HAB.out.del (x : Int)).inv) (Vl.hid (show Mm.Lv w81 (.pointer (some ⟨p, 0, none⟩)) Hp.h3 from Or.inl ⟨p, rfl, HL81.out⟩)) (by decide)).mono ?_
                rintro e w82 ⟨v82, rfl, ho, hb⟩
                rw [(HAB.out.del (x : Int)).v3] at ho
                obtain ⟨q82, c82, h82, -, -, -, -⟩ := ho.shape
                rw [Mm.nts_len, List.length_range] at h82
                subst h82
                have HO82 := Vl.hid ho
                have HBX82 := Vl.hid hb
                clear ho
                have HL82 := Vl.hid (HL81.out.below hb)
                have HR82 := Vl.hid (HR81.out.below hb)
                have HB82 := Vl.hid (HB81.out.trans (hb.mono HB81.out.size))
                clear hb
                go_wp2_with fail
                exact ⟨⟨i + 1, (Hp.delS r 2 (x : Int)), by omega, by go_num, Vl.hid (HAB.out.del (x : Int)), HL82, HR82, HB82⟩, by simp [RowKit.intOf]; omega⟩
              · have gE : ((E : Int) == 0) = false := by simp; omega
                clear hE0
                go_wp2_with fail
                refine (visible_any w71 (p + 1) (.pointer (some ⟨b, 0, none⟩)) (.pointer (some ⟨p, 0, none⟩)) r Hp.h3 3 (Vl.hid (show Hp.Rv w71 (p + 1) (.pointer (some ⟨b, 0, none⟩)) r from Or.inl ⟨b, rfl, HR71.out⟩)) (Vl.hid HAB.out.inv) (Vl.hid (show Mm.Lv w71 (.pointer (some ⟨p, 0, none⟩)) Hp.h3 from Or.inl ⟨p, rfl, HL71.out⟩)) (by decide)).mono ?_
                rintro e w91 ⟨v91, rfl, ho, hb⟩
                rw [HAB.out.v3] at ho
                obtain ⟨q91, c91, h91, -, -, -, -⟩ := ho.shape
                rw [Mm.nts_len, List.length_range] at h91
                subst h91
                have HO91 := Vl.hid ho
                have HBX91 := Vl.hid hb
                clear ho
                have HL91 := Vl.hid (HL71.out.below hb)
                have HR91 := Vl.hid (HR71.out.below hb)
                have HB91 := Vl.hid (HB71.out.trans (hb.mono HB71.out.size))
                clear hb
                go_wp2_with fail
                exact ⟨⟨i + 1, r, by omega, by go_num, Vl.hid HAB.out, HL91, HR91, HB91⟩, by simp [RowKit.intOf]; omega⟩
          · obtain rfl : i = l := by omega
            go_wp2_with fail
            refine (abort_any wq p Hp.h3 2 HL (by decide)).mono ?_
            rintro e w101 ⟨rfl, hl, hb⟩
            have HL101 : Hid (Mm.Lg w101 p Hp.h4) := Vl.hid hl
            have HR101 := Vl.hid (HR.out.tch hb (Nat.lt_succ_self p))
            have HB101 := Vl.hid (HB.out.trans (hb.bel (Nat.le_of_eq HP.out.symm) HB.out.size))
            clear hl hb
            rw [show (Cg.endE Hp.h3 2 : Int) = 0 from by kernel_rfl]
            go_wp2_with fail
            refine (begin_any w101 p Hp.h4 true HL101 (by decide)).mono ?_
            rintro e w102 ⟨rfl, hl, hb⟩
            have HL102 : Hid (Mm.Lg w102 p Hp.h5) := Vl.hid hl
            have HR102 := Vl.hid (HR101.out.tch hb (Nat.lt_succ_self p))
            have HB102 := Vl.hid (HB101.out.trans (hb.bel (Nat.le_of_eq HP.out.symm) HB101.out.size))
            clear hl hb
            go_wp2_with fail
            refine (visible_any w102 (p + 1) (.pointer (some ⟨b, 0, none⟩)) (.pointer (some ⟨p, 0, none⟩)) r Hp.h5 3 (Vl.hid (show Hp.Rv w102 (p + 1) (.pointer (some ⟨b, 0, none⟩)) r from Or.inl ⟨b, rfl, HR102.out⟩)) HI (Vl.hid (show Mm.Lv w102 (.pointer (some ⟨p, 0, none⟩)) Hp.h5 from Or.inl ⟨p, rfl, HL102.out⟩)) (by decide)).mono ?_
            rintro e w103 ⟨v103, rfl, ho, hb⟩
            rw [HAB.out.w3] at ho
            obtain ⟨q103, c103, h103, -, -, -, -⟩ := ho.shape
            rw [Mm.nts_len, List.length_range] at h103
            subst h103
            have HO103 := Vl.hid ho
            have HBX103 := Vl.hid hb
            clear ho
            have HL103 := Vl.hid (HL102.out.below hb)
            have HR103 := Vl.hid (HR102.out.below hb)
            have HB103 := Vl.hid (HB102.out.trans (hb.mono HB102.out.size))
            clear hb
            go_wp2_with fail
            refine (visible_any w103 (p + 1) (.pointer (some ⟨b, 0, none⟩)) (.pointer (some ⟨p, 0, none⟩)) r Hp.h5 4 (Vl.hid (show Hp.Rv w103 (p + 1) (.pointer (some ⟨b, 0, none⟩)) r from Or.inl ⟨b, rfl, HR103.out⟩)) HI (Vl.hid (show Mm.Lv w103 (.pointer (some ⟨p, 0, none⟩)) Hp.h5 from Or.inl ⟨p, rfl, HL103.out⟩)) (by decide)).mono ?_
            rintro e w104 ⟨v104, rfl, ho, hb⟩
            rw [HAB.out.w4] at ho
            obtain ⟨q104, c104, h104, -, -, -, -⟩ := ho.shape
            rw [Mm.nts_len, List.length_range] at h104
            subst h104
            have HO104 := Vl.hid ho
            have HBX104 := Vl.hid hb
            clear ho
            have HL104 := Vl.hid (HL103.out.below hb)
            have HR104 := Vl.hid (HR103.out.below hb)
            have HB104 := Vl.hid (HB103.out.trans (hb.mono HB103.out.size))
            clear hb
            go_wp2_with fail
            have HBX : Hid (Below w103.heap.size w103 w104) := HBX104
            have HOA : Hid (Mm.Own w104 w.heap.size 3 (.slice q103 j c103) (Mm.nts (List.range j))) := Vl.hid ((HO103.out.below (by have := HBX.out; exact this)).base (by have := HB102.out.size; omega))
            have HOB : Hid (Mm.Own w104 w.heap.size 3 (.slice q104 j c104) (Mm.nts (List.range j))) := Vl.hid (HO104.out.base (by have := HB103.out.size; omega))
            go_loopw [17] (fun vi wz => ∃ i2 : Nat, i2 ≤ j ∧ vi = .int .i64 (i2 : Int) ∧ Hid (Below w104.heap.size w104 wz)) (fun vi _ => j - (RowKit.intOf vi).toNat)
            case atStart => exact ⟨0, by omega, rfl, Vl.hid (Below.refl _ _)⟩
            case round =>
              obtain ⟨i2, hi2, rfl, HZ⟩ := hrel
              rename World => wz
              have HLz := Vl.hid (HL104.out.below HZ.out)
              have HRz := Vl.hid (HR104.out.below HZ.out)
              have HBz := Vl.hid (HB104.out.trans (HZ.out.mono HB104.out.size))
              by_cases hz : i2 < j
              · obtain ⟨g, cg, e1, -, d0, -, -⟩ := (HOA.out.below HZ.out).at (i := i2) (u := .int .i64 (i2 : Int)) (Mm.nts_at (List.getElem?_range hz))
                replace e1 : q103 = some ⟨g, 0, none⟩ := by injection e1
                subst e1
                have i5 : ((i2 : Int) != (i2 : Int)) = false := by simp
                have j5 : (i2 : Int) < (j : Int) := by omega
                have j6 : (0 : Int) ≤ (i2 : Int) := by omega
                have HU := Vl.hid (HAB.out.uns hz)
                go_wp2_with fail
                refine (unseen_any wz (p + 1) (.pointer (some ⟨b, 0, none⟩)) (.pointer (some ⟨p, 0, none⟩)) r Hp.h5 3 (i2 : Int) (Vl.hid (show Hp.Rv wz (p + 1) (.pointer (some ⟨b, 0, none⟩)) r from Or.inl ⟨b, rfl, HRz.out⟩)) HI (Vl.hid (show Mm.Lv wz (.pointer (some ⟨p, 0, none⟩)) Hp.h5 from Or.inl ⟨p, rfl, HLz.out⟩)) (by decide)).mono ?_
                rintro e wy ⟨vy, rfl, ho, hb⟩
                rw [HU.out] at ho
                obtain ⟨qy, cy, rfl, -, -⟩ := ho.iin
                have HZ2 := Vl.hid (HZ.out.trans (hb.mono HZ.out.size))
                clear ho hb
                go_wp2_with fail
                exact ⟨⟨i2 + 1, by omega, by go_num, HZ2⟩, by simp [RowKit.intOf]; omega⟩
              · obtain rfl : i2 = j := by omega
                have i6 : ((i2 : Int) == (i2 : Int)) = true := by simp
                obtain ⟨qa, ca, e1, hia⟩ := (HOA.out.below HZ.out).nin
                obtain ⟨qb, cb, e2, hib⟩ := (HOB.out.below HZ.out).nin
                replace e1 : q103 = qa := by injection e1
                replace e2 : q104 = qb := by injection e2
                subst e1 e2
                have HIA := Vl.hid hia
                have HIB := Vl.hid hib
                clear hia hib
                go_wp2_with fail
                refine (ints_gen _ _ _ _ i2 i2 c103 c104 wz HIA HIB (Vl.hid (by simp)) (Vl.hid (by simp)) (by simp; omega)).mono ?_
                rintro e wy ⟨rfl, hb⟩
                have HY := Vl.hid (HBz.out.trans (hb.mono HBz.out.size))
                rw [decide_eq_true rfl]
                clear hb
                go_wp2_with fail
                refine (wakes_any wy).mono ?_
                rintro e wx ⟨rfl, hb⟩
                have HXX := Vl.hid (HY.out.trans (hb.mono HY.out.size))
                clear hb
                go_wp2_with fail
                go_ret
                exact ⟨rfl, HXX.out⟩
  · have g60 : (60 : Int) < (l : Int) := by omega
    go_wp2_with fail
    refine (wakes_any w2).mono ?_
    rintro e w3 ⟨rfl, hb⟩
    have HB3 := Vl.hid (HB2.out.trans (hb.mono HB2.out.size))
    clear hb
    go_wp2_with fail
    go_ret
    exact ⟨rfl, HB3.out⟩
end Go.Proofs.Ytoobljkjhpkghaa
