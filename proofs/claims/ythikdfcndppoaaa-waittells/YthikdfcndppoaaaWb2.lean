/- The reference's Reach walked. -/
import Derived.Test.YthikdfcndppoaaaWc1
namespace Go.Proofs.Ythikdfcndppoaaa
open Go.RowKit

namespace Mm
/-- Two rows of one's own in memory of their own. -/
structure Two (w : World) (base : Nat) (v u : Value) (l m : List Int) : Prop where
  a : Own w base 3 v (its l)
  b : Own w base 3 u (its m)
  ne : ∀ g, v.ownBlock = some g → u.ownBlock ≠ some g
theorem Two.keep {w w' : World} {base : Nat} {v u : Value} {l m : List Int} (h : Two w base v u l m) (hb : Below w.heap.size w w') : Two w' base v u l m := ⟨h.a.below hb, h.b.below hb, h.ne⟩
theorem Two.putA {w w' : World} {base : Nat} {v v' u : Value} {l l' m : List Int} (h : Two w base v u l m) (hg : w.grownBy w' v.ownBlock) (hv : Own w' base 3 v' (its l')) (ho : v'.ownBlock = v.ownBlock ∨ ∀ g, v'.ownBlock = some g → w.heap.size ≤ g) : Two w' base v' u l' m :=
  ⟨hv, h.b.keep (fun g hgu => hg.block g (h.b.lt hgu).1 (fun e => h.ne g e.symm hgu)), fun g h1 h2 => by
    rcases ho with ho | ho
    · exact h.ne g (by rw [← ho, h1]) h2
    · have := ho g h1; have := (h.b.lt h2).1; omega⟩
theorem Two.putB {w w' : World} {base : Nat} {v u u' : Value} {l m m' : List Int} (h : Two w base v u l m) (hg : w.grownBy w' u.ownBlock) (hv : Own w' base 3 u' (its m')) (ho : u'.ownBlock = u.ownBlock ∨ ∀ g, u'.ownBlock = some g → w.heap.size ≤ g) : Two w' base v u' l m' :=
  ⟨h.a.keep (fun g hgu => hg.block g (h.a.lt hgu).1 (fun e => h.ne g hgu e.symm)), hv, fun g h1 h2 => by
    rcases ho with ho | ho
    · exact h.ne g h1 (by rw [← ho, h2])
    · have := ho g h2; have := (h.a.lt h1).1; omega⟩
theorem belDN {B : Nat} {w w1 : World} (h : Below B w w1) (n : Nat) : Below B w (w1.drewN n) := ⟨h.os, h.tape, h.output, h.size, h.block⟩
/-- What was met so far. -/
structure Met (l : Kn.El) (f : Int) (M : List Int) (i k : Nat) : Prop where
  nd : M.Nodup
  sound : ∀ y ∈ M, Rch (Kn.R l) f y
  ends : ∀ y ∈ M, ∃ e ∈ l, e.2 = y
  full : ∀ (j : Nat) (x : Int), j < i → (f :: M)[j]? = some x → ∀ e ∈ l, e.1 = x → e.2 ∈ M
  part : ∀ (x : Int), (f :: M)[i]? = some x → ∀ e ∈ l.take k, e.1 = x → e.2 ∈ M
theorem Met.len {l : Kn.El} {f : Int} {M : List Int} {i k : Nat} (h : Met l f M i k) : M.length ≤ l.length := by
  have := nodup_sub M (l.map (·.2)) h.nd (fun x hx => by
    obtain ⟨e, he, h2⟩ := h.ends x hx
    exact List.mem_map.2 ⟨e, he, h2⟩)
  simpa using this
theorem Met.start (l : Kn.El) (f : Int) : Met l f [] 0 0 := ⟨List.nodup_nil, fun y h => by simp at h, fun y h => by simp at h, fun j x h => absurd h (Nat.not_lt_zero j), fun x _ e he => by simp at he⟩
theorem Met.next {l : Kn.El} {f : Int} {M : List Int} {i : Nat} (h : Met l f M i l.length) : Met l f M (i + 1) 0 :=
  ⟨h.nd, h.sound, h.ends, fun j x hj hx e he h1 => by
    by_cases c : j = i
    · subst c
      exact h.part x hx e (by rw [List.take_length]; exact he) h1
    · exact h.full j x (by omega) hx e he h1, fun x _ e he => by simp at he⟩
theorem Met.skip {l : Kn.El} {f : Int} {M : List Int} {i k : Nat} (h : Met l f M i k) {a b x : Int} (he : l[k]? = some (a, b)) (hx : (f :: M)[i]? = some x) (hs : a ≠ x ∨ b ∈ M) : Met l f M i (k + 1) :=
  ⟨h.nd, h.sound, h.ends, h.full, fun x' hx' e he' h1 => by
    rw [take_snoc' he, List.mem_append, List.mem_singleton] at he'
    rcases he' with he' | rfl
    · exact h.part x' hx' e he' h1
    · rw [hx] at hx'
      injection hx' with hx'
      rcases hs with hs | hs
      · exact absurd (h1.trans hx'.symm) hs
      · exact hs⟩
theorem Met.add {l : Kn.El} {f : Int} {M : List Int} {i k : Nat} (h : Met l f M i k) {a b : Int} (he : l[k]? = some (a, b)) (hx : (f :: M)[i]? = some a) (hb : b ∉ M) : Met l f (M ++ [b]) i (k + 1) := by
  have hmem := List.mem_of_getElem? he
  have hi : i < (f :: M).length := (List.getElem?_eq_some_iff.1 hx).1
  have hcons : f :: (M ++ [b]) = (f :: M) ++ [b] := rfl
  have hra : Rch (Kn.R l) f b := by
    have e1 : Kn.R l a b := hmem
    rcases List.mem_cons.1 (List.mem_of_getElem? hx) with e | e
    · rw [← e]; exact .one e1
    · exact (h.sound a e).snoc e1
  refine ⟨?_, fun y hy => ?_, fun y hy => ?_, fun j x hj hx2 e he2 h1 => ?_, fun x hx2 e he2 h1 => ?_⟩
  · rw [List.nodup_append]
    exact ⟨h.nd, by simp, fun y hy z hz => by rw [List.mem_singleton.1 hz]; exact fun e => hb (by rw [← e]; exact hy)⟩
  · rcases List.mem_append.1 hy with hy | hy
    · exact h.sound y hy
    · rw [List.mem_singleton.1 hy]; exact hra
  · rcases List.mem_append.1 hy with hy | hy
    · exact h.ends y hy
    · rw [List.mem_singleton.1 hy]; exact ⟨_, hmem, rfl⟩
  · rw [hcons, List.getElem?_append_left (by omega)] at hx2
    exact List.mem_append_left _ (h.full j x hj hx2 e he2 h1)
  · rw [hcons, List.getElem?_append_left hi] at hx2
    rw [take_snoc' he, List.mem_append, List.mem_singleton] at he2
    rcases he2 with he2 | rfl
    · exact List.mem_append_left _ (h.part x hx2 e he2 h1)
    · exact List.mem_append_right _ (by simp)
theorem Met.done {l : Kn.El} {f : Int} {M : List Int} {k : Nat} (h : Met l f M (M.length + 1) k) (y : Int) : y ∈ M ↔ Rch (Kn.R l) f y := by
  refine ⟨h.sound y, fun hr => ?_⟩
  have step : ∀ a b, (a = f ∨ a ∈ M) → Kn.R l a b → b ∈ M := fun a b ha hab => by
    have : a ∈ f :: M := by
      rcases ha with rfl | ha
      · simp
      · exact List.mem_cons_of_mem _ ha
    obtain ⟨j, hj⟩ := List.getElem?_of_mem this
    have hjl := (List.getElem?_eq_some_iff.1 hj).1
    exact h.full j a (by simpa using hjl) hj (a, b) hab rfl
  obtain ⟨c, hc, hcy⟩ := hr.first
  have hcm := step f c (.inl rfl) hc
  rcases hcy with rfl | hcy
  · exact hcm
  · exact Rch.closed (P := fun x => x ∈ M) (fun a b ha hab => step a b (.inr ha) hab) hcy hcm
end Mm

set_option maxRecDepth 100000 in
set_option maxHeartbeats 4000000 in
theorem reach_any (w : World) (q : Option Addr) (c n : Nat) (l : Kn.El) (f : Int) (hl : Hid (Mm.EIn w q l)) (hn : Hid (n = l.length)) (hn1 : n < 1000) :
    Calls Try.prog 23 #[.slice q n c, .int .i64 f] w fun e w' => ∃ (v : Value) (M : List Int), e = .returned v ∧ Mm.Own w' w.heap.size 3 v (Mm.its M) ∧ M.length ≤ n ∧ (∀ y, y ∈ M ↔ Rch (Kn.R l) f y) ∧ Below w.heap.size w w' := by
  go_enter Try.func23, Try.ntmps23
  go_wp2_with fail
  obtain ⟨w1, hw1⟩ : ∃ w1, w.alloc (.cells #[.int .i64 f] 3) = w1 := ⟨_, rfl⟩
  have hb1 : Below w.heap.size w w1 := by rw [← hw1]; exact (Below.refl _ _).alloc (Nat.le_refl _) _
  have ht1 : Mm.Two w1 w.heap.size (.slice none 0 0) (.slice (some ⟨w.heap.size, 0, none⟩) 1 1) [] [f] := by
    rw [← hw1]
    exact ⟨Mm.Own.nil _ _ _, ⟨rfl, Or.inr ⟨w.heap.size, 1, #[.int .i64 f], rfl, Nat.le_refl _, Mm.newAt w _ rfl, Nat.le_refl _, by unfold maxLen; omega, rfl, rfl⟩⟩, (fun g e => nomatch e)⟩
  have HB1 := Mm.hid hb1
  have HT1 := Mm.hid ht1
  clear hb1 ht1
  rw [hw1]
  clear hw1
  go_loopw [5, 6, 7] (fun v5 v6 v7 wr => ∃ (i : Nat) (M : List Int), v7 = .int .i64 (i : Int) ∧ i ≤ M.length + 1 ∧ Hid (Mm.Two wr w.heap.size v5 v6 M (f :: M)) ∧ Hid (Mm.Met l f M i 0) ∧ Hid (Below w.heap.size w wr)) (fun _ _ v7 _ => n + 1 - (RowKit.intOf v7).toNat)
  case atStart => exact ⟨0, [], rfl, by omega, HT1, Mm.hid (Mm.Met.start l f), HB1⟩
  case round =>
    obtain ⟨i, M, rfl, hi, HT, HM, HB⟩ := hrel
    rename World => wr
    clear HT1 HB1
    have hml := HM.out.len
    rw [← hn.out] at hml
    obtain ⟨qv, cv, ev, hiv, hcv, hnv⟩ := HT.out.a.iin
    obtain ⟨qu, cu, eu, hiu, hcu, hnu⟩ := HT.out.b.iin
    obtain ⟨m, hm⟩ : ∃ m, m = M.length := ⟨_, rfl⟩
    have hm2 : (f :: M).length = m + 1 := by rw [hm]; rfl
    rw [hm2] at eu hcu
    rw [← hm] at hml hi ev hcv
    by_cases hlt : i < m + 1
    · have hMl : i < M.length + 1 := by omega
      clear hiv hnv hiu hnu hcv hcu hm2 hm
      subst ev
      subst eu
      go_wp2_with fail
      go_loopw [5, 6, 8] (fun v5 v6 v8 wq => ∃ (k : Nat) (M2 : List Int), k ≤ n ∧ v8 = .int .i64 (k : Int) ∧ i < M2.length + 1 ∧ Hid (Mm.Two wq w.heap.size v5 v6 M2 (f :: M2)) ∧ Hid (Mm.Met l f M2 i k) ∧ Hid (Below w.heap.size w wq)) (fun _ _ v8 _ => n - (RowKit.intOf v8).toNat)
      case atStart => exact ⟨0, M, by omega, rfl, hMl, HT, HM, HB⟩
      case round =>
        obtain ⟨k, M2, hk, rfl, hM2, HT2, HM2, HB2⟩ := hrel
        rename World => wq
        clear HT HM HB
        have hml2 := HM2.out.len
        rw [← hn.out] at hml2
        obtain ⟨x, hx⟩ : ∃ x, (f :: M2)[i]? = some x := ⟨_, List.getElem?_eq_getElem (by simp; omega)⟩
        obtain ⟨qv2, cv2, ev2, hiv2, hcv2, hnv2⟩ := HT2.out.a.iin
        obtain ⟨qu2, cu2, eu2, hiu2, hcu2, hnu2⟩ := HT2.out.b.iin
        obtain ⟨m2, hm2⟩ : ∃ m2, m2 = M2.length := ⟨_, rfl⟩
        have hm3 : (f :: M2).length = m2 + 1 := by rw [hm2]; rfl
        rw [hm3] at eu2 hcu2
        rw [← hm2] at hml2 hM2 ev2 hcv2
        obtain ⟨mm, hmm⟩ : ∃ mm, mm = m2 + 1 := ⟨_, rfl⟩
        rw [← hmm] at eu2 hcu2 hM2
        have gi0 : (0 : Int) ≤ (i : Int) := by omega
        have gi1 : (i : Int) < (mm : Int) := by omega
        have HX := Mm.hid hx
        have HMMM := Mm.hid hmm
        clear hmm
        by_cases hkl : k < n
        · obtain ⟨e, he⟩ : ∃ e, l[k]? = some e := ⟨_, List.getElem?_eq_getElem (by rw [← hn.out]; exact hkl)⟩
          obtain ⟨a, y⟩ := e
          have HL := Mm.hid hl.out
          obtain ⟨b, o, eq, hbb, d1, d2⟩ := (hl.out.below HB2.out) k (a, y) he
          obtain ⟨bu, ou, equ, hbu, d3⟩ := hiu2 i x hx
          have HE := Mm.hid he
          have HIV := Mm.hid hiv2
          have HMM := Mm.hid hm2
          have HQV := Mm.hid hnv2
          simp only at d1 d2
          subst equ
          subst eq
          subst ev2
          subst eu2
          clear he hx hiv2 hiu2 hnv2 hnu2 hm2 hm3 hbb hbu
          by_cases e : a = x
          · have hax : (a == x) = true := by simpa using e
            subst e
            by_cases hy : y ∈ M2
            · have HH : ∀ nn, Calls Try.prog 24 #[.slice qv2 m2 cv2, .int .i64 y] (wq.drewN nn) fun e w' => e = .returned (.bool true) ∧ w' = wq.drewN nn := fun nn => by
                have := has_any (wq.drewN nn) qv2 cv2 m2 M2 y (Mm.hid (HIV.out.below (Mm.belDN (Below.refl _ _) nn))) HMM (by omega)
                rwa [List.contains_iff_mem.2 hy] at this
              have HHH := Mm.hid HH
              have HY := Mm.hid hy
              clear HH hy
              go_wp2_with fail
              go_quiet ((go_at_call 24; exact Calls.quiet_of_same (HHH.out _)))
              have HT3 := Mm.hid (HT2.out.keep (Mm.belDN (Below.refl _ _) nq))
              have HB3 := Mm.hid (Mm.belDN HB2.out nq)
              obtain ⟨b4, o4, eq4, _, d4, d5⟩ := (HL.out.below HB3.out) k (a, y) HE.out
              injection eq4 with eq4
              injection eq4 with eb4 eo4
              subst eb4
              subst eo4
              simp only at d4 d5
              clear d1 d2 d3 HHH HT2 HB2
              generalize wq.drewN nq = wz at HT3 HB3 d4 d5 ⊢
              go_wp2_with fail
              exact ⟨⟨k + 1, M2, by omega, by go_num, by have := HMM.out; have := HMMM.out; omega, HT3, Mm.hid (HM2.out.skip HE.out HX.out (.inr HY.out)), HB3⟩, by simp [RowKit.intOf]; omega⟩
            · have HH : ∀ nn, Calls Try.prog 24 #[.slice qv2 m2 cv2, .int .i64 y] (wq.drewN nn) fun e w' => e = .returned (.bool false) ∧ w' = wq.drewN nn := fun nn => by
                have := has_any (wq.drewN nn) qv2 cv2 m2 M2 y (Mm.hid (HIV.out.below (Mm.belDN (Below.refl _ _) nn))) HMM (by omega)
                have h2 : M2.contains y = false := by rw [Bool.eq_false_iff]; exact fun h => hy (List.contains_iff_mem.1 h)
                rwa [h2] at this
              have HHH := Mm.hid HH
              have HY := Mm.hid hy
              have HSZ := Mm.hid HB2.out.size
              clear HH hy
              go_wp2_with fail
              go_quiet ((go_at_call 24; exact Calls.quiet_of_same (HHH.out _)))
              have HT3 := Mm.hid (HT2.out.keep (Mm.belDN (Below.refl _ _) nq))
              have HB3 := Mm.hid (Mm.belDN HB2.out nq)
              obtain ⟨b4, o4, eq4, _, d4, d5⟩ := (HL.out.below HB3.out) k (a, y) HE.out
              injection eq4 with eq4
              injection eq4 with eb4 eo4
              subst eb4
              subst eo4
              simp only at d4 d5
              clear d1 d2 d3 HHH HT2 HB2
              generalize wq.drewN nq = wz at HT3 HB3 d4 d5 ⊢
              have HSZ3 := Mm.hid HB3.out.size
              go_wp2_with (at_builtin; first
                | (refine Mm.appI wz rfl _ _ rfl w.heap.size (.slice qv2 m2 cv2) y (Mm.its M2) rfl HT3.out.a _ rfl (by simp) (by rw [Mm.its_len, ← HMM.out]; omega) HSZ3.out ?_
                   intro v5 w5 hown5 hg5 hloc5
                   have HT5 := Mm.hid (HT3.out.putA (l' := M2 ++ [y]) hg5 (by rw [Mm.its_app]; exact hown5) hloc5)
                   have HB5 := Mm.hid (HB3.out.grown hg5 HSZ3.out (fun g hg => (HT3.out.a.lt hg).2))
                   obtain ⟨b5, o5, eq5, _, _, d6⟩ := (HL.out.below HB5.out) k (a, y) HE.out
                   injection eq5 with eq5
                   injection eq5 with eb5 eo5
                   subst eb5
                   subst eo5
                   simp only at d6
                   clear hown5 hg5 hloc5)
                | (refine Mm.appI w5 rfl _ _ rfl w.heap.size (.slice (some ⟨bu, ou, none⟩) mm cu2) y (Mm.its (f :: M2)) rfl HT5.out.b _ rfl (by simp) (by rw [Mm.its_len, List.length_cons, ← HMM.out]; omega) HB5.out.size ?_
                   intro v6 w6 hown6 hg6 hloc6
                   have HT6 := Mm.hid (HT5.out.putB (m' := f :: (M2 ++ [y])) hg6 (by rw [show f :: (M2 ++ [y]) = (f :: M2) ++ [y] from rfl, Mm.its_app]; exact hown6) hloc6)
                   have HB6 := Mm.hid (HB5.out.grown hg6 HB5.out.size (fun g hg => (HT5.out.b.lt hg).2))
                   clear hown6 hg6 hloc6))
              exact ⟨⟨v5, v6, .int .i64 ((k : Int) + 1), ⟨k + 1, by omega, by go_num, M2 ++ [y], by have := HMM.out; have := HMMM.out; rw [List.length_append]; omega, HT6, Mm.hid (HM2.out.add HE.out HX.out HY.out)⟩, rfl, rfl, rfl⟩, by simp [RowKit.intOf]; omega⟩
          · have hax : (a == x) = false := by simpa using e
            have HAX := Mm.hid e
            clear e
            go_wp2_with fail
            go_quiet (fail)
            have HT3 := Mm.hid (HT2.out.keep (Mm.belDN (Below.refl _ _) nq))
            have HB3 := Mm.hid (Mm.belDN HB2.out nq)
            clear d1 d2 d3
            generalize wq.drewN nq = wz at HT3 HB3 ⊢
            go_wp2_with fail
            exact ⟨⟨k + 1, M2, by omega, by go_num, by have := HMM.out; have := HMMM.out; omega, HT3, Mm.hid (HM2.out.skip HE.out HX.out (.inl HAX.out)), HB3⟩, by simp [RowKit.intOf]; omega⟩
        · obtain rfl : k = n := by omega
          have HMN : Hid (Mm.Met l f M2 (i + 1) 0) := Mm.hid (by have := HM2.out; rw [hn.out] at this; exact this.next)
          have HMM := Mm.hid hm2
          clear hiv2 hiu2 hnv2 hnu2 hm2 hm3 hx hcv2 hcu2
          subst ev2
          subst eu2
          go_wp2_with fail
          exact ⟨⟨i + 1, M2, by go_num, by have := HMM.out; have := HMMM.out; omega, HT2, HMN, HB2⟩, by simp [RowKit.intOf]; omega⟩
    · obtain rfl : i = m + 1 := by omega
      have HMD : Hid (∀ y, y ∈ M ↔ Rch (Kn.R l) f y) := Mm.hid (fun y => Mm.Met.done (k := 0) (by rw [← hm]; exact HM.out) y)
      have HMM := Mm.hid hm
      clear hiv hnv hiu hnu hm hm2 hlt
      subst ev
      subst eu
      go_wp2_with fail
      go_ret
      exact ⟨_, M, rfl, HT.out.a, by rw [← HMM.out]; exact hml, HMD.out, HB.out⟩
end Go.Proofs.Ythikdfcndppoaaa
