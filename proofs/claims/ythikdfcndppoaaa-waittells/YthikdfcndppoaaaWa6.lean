/- close walked. -/
import Derived.Test.YthikdfcndppoaaaWa5
namespace Go.Proofs.Ythikdfcndppoaaa
open Go.RowKit Go.Sort

namespace Mm
/-- slices.Contains on a row of places. -/
theorem contains_any (q : Option Addr) (d : Nat) (l : List Nat) (x : Nat) (w : World) (hl : l.length ≤ 100000) (hc : ∀ (j t : Nat), l[j]? = some t → ∃ b, q = some ⟨b, 0, none⟩ ∧ w.cell? ⟨b, j, none⟩ = some (.int .i64 (t : Int))) :
    Calls Try.prog 56 #[.slice q l.length d, .int .i64 (x : Int)] w fun e w' => e = .returned (.bool (l.contains x)) ∧ w' = w := by
  cases hll : l with
  | nil => exact Any.slices_Contains_int_empty Try.lays107 q d x w
  | cons t r =>
    rw [← hll]
    obtain ⟨b, hb, _⟩ := hc 0 t (by rw [hll]; rfl)
    subst hb
    have h := Any.slices_Contains_int Try.lays107 b 0 l.length d (l.map (fun p : Nat => (p : Int))) x w (by simp) (by omega) (fun j hj => by
      rw [List.length_map] at hj
      obtain ⟨b', e, h⟩ := hc j l[j] (List.getElem?_eq_getElem hj)
      cases e
      rw [Nat.zero_add, h]
      simp [List.getD_eq_getElem?_getD, List.getElem?_eq_getElem hj])
    rw [List.take_of_length_le (by simp)] at h
    have e : (l.map (fun p : Nat => (p : Int))).contains (x : Int) = l.contains x := by
      rw [Bool.eq_iff_iff, List.contains_iff_mem, List.contains_iff_mem, List.mem_map]
      constructor
      · rintro ⟨a, ha, e⟩
        have : a = x := by omega
        rw [← this]; exact ha
      · intro hx; exact ⟨x, hx, rfl⟩
    rw [e] at h
    exact h
theorem closeN_nil (f : Nat → Nat) : Tj.closeN f [] = f := by funext v; simp [Tj.closeN]
theorem closeN_snoc (f : Nat → Nat) (l : List Nat) (x : Nat) : Tj.closeN f (l ++ [x]) = Tj.upd (Tj.closeN f l) x Tj.CL := by
  funext v
  unfold Tj.closeN Tj.upd
  by_cases e : v = x
  · simp [e]
  · simp [e]
theorem take_snoc {l : List Nat} {k x : Nat} (h : l[k]? = some x) : l.take (k + 1) = l.take k ++ [x] := by rw [List.take_add_one, h]; rfl
end Mm

set_option maxRecDepth 100000 in
set_option maxHeartbeats 4000000 in
theorem close_any (h : Nat) (w : World) (tag : Nat → Option Mm.Lb) (p : Nat) (ns : List Int) (E : Nat → List Nat) (sv : List Value) (s : Tj.S) (z : Mm.Sl) (kv : List Value) (pre rest : List Nat) (x : Nat) (hT : Hid (Mm.Wk h w tag p ns s z kv)) (hG : Hid (Mm.Gr h w z.vN z.vE ns E sv)) (hx : x < ns.length)
    (ho : Hid (s.opn = pre ++ x :: rest)) (hnd : Hid (x ∉ rest)) (hlt : Hid (∀ y ∈ x :: rest, y < ns.length)) (hN : Hid (pre.length < 100000 ∧ rest.length < 90000 ∧ (E x).length < 100000 ∧ s.done.length < 100000)) (hh : h ≤ w.heap.size) (kb : Bool) (hkk : Hid (kb = (decide (1 < (x :: rest).length) || (E x).contains x))) :
    Calls Try.prog 35 #[.pointer (some ⟨p, 0, none⟩), .int .i64 (x : Int)] w fun e w' => e = .returned (.tuple #[]) ∧
      ∃ tag' z' kv', Mm.Wk h w' tag' p ns { s with opn := pre, num := Tj.closeN s.num (x :: rest), done := if kb then s.done ++ [x :: rest] else s.done } z' kv' ∧ z'.vN = z.vN ∧ z'.vE = z.vE ∧ Below h w w' := by
  have hpp := hT.out.opn.own
  rw [ho.out] at hpp
  obtain ⟨go, no, co, eo, hno, hco⟩ := hpp.nonnil (by simp [Mm.nts])
  simp [Mm.nts] at hno
  obtain ⟨a, ha⟩ : ∃ a, a = pre.length := ⟨_, rfl⟩
  obtain ⟨r, hr⟩ : ∃ r, r = rest.length := ⟨_, rfl⟩
  obtain rfl : no = a + r + 1 := by omega
  have HA := Mm.hid (And.intro ha hr)
  have hN' : a < 100000 ∧ r < 90000 := by have := hN.out; omega
  have HOW := Mm.hid hpp
  have hcell : ∀ (j y : Nat), (pre ++ x :: rest)[j]? = some y → w.cell? ⟨go, j, none⟩ = some (.int .i64 (y : Int)) := fun j y hy => by
    have h1 := HOW.out
    rw [eo] at h1
    exact (h1.cell (Mm.nts_at hy)).1
  have HC := Mm.hid hcell
  have c7 := hT.out.at 7 rfl
  have f7 := hT.out.fr 7
  simp only [eo] at c7
  clear hpp hno ha hr hcell
  go_enter Try.func35, Try.ntmps35
  go_wp2_with fail
  go_loop [4] (fun v => ∃ i : Nat, a ≤ i ∧ i ≤ a + r ∧ v = .int .i64 (i : Int)) (fun v => (intOf v).toNat)
  case atStart => exact ⟨a + r, by omega, by omega, by go_num⟩
  case round =>
    obtain ⟨i, hi1, hi2, rfl⟩ := hrel
    by_cases hi0 : i = a
    · subst hi0
      have cx : w.cell? ⟨go, i, none⟩ = some (.int .i64 (x : Int)) := HC.out i x (by rw [HA.out.1, List.getElem?_append_right (Nat.le_refl _)]; simp)
      have nx : ((x : Int) != (x : Int)) = false := by simp
      have es : i + r + 1 - i = r + 1 := by omega
      clear hi1 hi2
      go_wp2_with fail
      obtain ⟨gn, cn, en, hcn, -, -, -⟩ := hT.out.num.own.at (Mm.fnc_at s.num hx)
      simp only [Mm.fnc_len] at en hcn
      have hT1 : Hid (Mm.Own w h 3 (.slice (some ⟨go, 0, none⟩) i co) (Mm.nts pre)) := Mm.hid (by
        have h1 := HOW.out
        rw [eo] at h1
        have h2 := h1.take (k := i) (by simp; have := HA.out; omega)
        rw [Mm.nts_app, List.take_left' (by rw [Mm.nts_len]; exact HA.out.1.symm)] at h2
        exact h2)
      have hW1 := hT.out.putOpn (opn := pre) (World.grownBy.refl _ _) hT1.out (Or.inl (by rw [eo]; rfl))
      obtain ⟨w1, hw1⟩ : ∃ w1, w.setCell ⟨p, 7, none⟩ (.slice (some ⟨go, 0, none⟩) i co) = w1 := ⟨_, rfl⟩
      have hB1 : Below h w (w.setCell ⟨p, 7, none⟩ (.slice (some ⟨go, 0, none⟩) i co)) := Mm.setBel (hT.out.ge hT.out.tp) _ _
      have hgo : (w.setCell ⟨p, 7, none⟩ (.slice (some ⟨go, 0, none⟩) i co)).heap[go]? = w.heap[go]? := heap_setCell_other w _ go _ (Mm.apart (hT.out.opn.tg go (by rw [eo]; rfl)) hT.out.tp (by simp))
      rw [hw1] at hW1 hB1 hgo ⊢
      obtain ⟨z1, hz1⟩ : ∃ z1, z1 = { z with vo := .slice (some ⟨go, 0, none⟩) i co } := ⟨_, rfl⟩
      obtain ⟨tag1, ht1⟩ : ∃ tag1, tag1 = Mm.tagW tag (Value.slice (some ⟨go, 0, none⟩) i co).ownBlock Mm.Lb.opn := ⟨_, rfl⟩
      obtain ⟨en1, eN1, eE1⟩ : z1.vn = .slice (some ⟨gn, 0, none⟩) ns.length cn ∧ z1.vN = z.vN ∧ z1.vE = z.vE := by subst hz1; exact ⟨en, rfl, rfl⟩
      rw [← hz1, ← ht1] at hW1
      have htg : tag1 go = some .opn := by rw [ht1]; unfold Mm.tagW; exact if_pos rfl
      have HGO := Mm.hid (And.intro hgo htg)
      have HB1 := Mm.hid hB1
      have HW1 : Hid (Mm.Wk h w1 tag1 p ns { s with opn := pre, num := Tj.closeN s.num ((x :: rest).take 0) } z1 kv) := Mm.hid (by rw [List.take_zero, Mm.closeN_nil]; exact hW1)
      have HE := Mm.hid (And.intro eN1 eE1)
      have hml : (x :: rest).length = r + 1 := by simp; exact HA.out.2.symm
      have HML := Mm.hid hml
      clear hw1 hW1 hB1 hgo hz1 ht1 htg c7 f7 cx nx es eN1 eE1 hml eo
      go_loopw [42] (fun vi wr => ∃ k : Nat, k ≤ r + 1 ∧ vi = .int .i64 (k : Int) ∧ Hid (Mm.Wk h wr tag1 p ns { s with opn := pre, num := Tj.closeN s.num ((x :: rest).take k) } z1 kv) ∧ Hid (Below h w wr) ∧ Hid (wr.heap[go]? = w.heap[go]?)) (fun vi _ => r + 1 - (RowKit.intOf vi).toNat)
      case atStart => exact ⟨0, by omega, rfl, HW1, HB1, Mm.hid HGO.out.1⟩
      case round =>
        obtain ⟨k, hk, rfl, HW, HB, HG⟩ := hrel
        rename World => wr
        by_cases hlt2 : k < r + 1
        · obtain ⟨y, hy⟩ : ∃ y, (x :: rest)[k]? = some y := ⟨_, List.getElem?_eq_getElem (by rw [HML.out]; exact hlt2)⟩
          have hyn := hlt.out y (List.mem_of_getElem? hy)
          have cy : wr.cell? ⟨go, i + k, none⟩ = some (.int .i64 (y : Int)) := (World.cell?_of_block (a := ⟨go, i + k, none⟩) HG.out).trans (HC.out (i + k) y (by rw [HA.out.1, List.getElem?_append_right (by omega), Nat.add_sub_cancel_left]; exact hy))
          have c2 := HW.out.at 2 rfl
          have n1 := HW.out.num.own
          simp only [en1] at c2 n1
          obtain ⟨d1, f1⟩ := n1.cell (Mm.fnc_at _ hyn)
          have HY := Mm.hid hy
          clear n1 hy
          go_wp2_with fail
          have hW2 := HW.out.setNum en1 y Tj.CL
          rw [← Mm.closeN_snoc, ← Mm.take_snoc HY.out] at hW2
          refine ⟨⟨k + 1, by omega, by go_num, hW2, HB.out.setCell (hT.out.ge (hT.out.num.tg gn (by rw [en]; rfl))) _, (heap_setCell_other wr _ go _ (Mm.apart HGO.out.2 (HW.out.num.tg gn (by rw [en1]; rfl)) (by simp))).trans HG.out⟩, by simp [RowKit.intOf]; omega⟩
        · obtain rfl : k = r + 1 := by omega
          have hWd := HW.out
          rw [List.take_of_length_le (by rw [HML.out]; exact Nat.le_refl _)] at hWd
          have HWd := Mm.hid hWd
          clear hWd HW HW1
          obtain ⟨ge, ce, q, d, eE, hce, he1, he2, he3, he4, he5⟩ := (hG.out.below HB.out).ends hx
          have c1 := HWd.out.at 1 rfl
          rw [HE.out.2, eE] at c1
          have HGr : Hid (Mm.Gr h wr z1.vN z1.vE ns E sv) := Mm.hid (by rw [HE.out.1, HE.out.2]; exact hG.out.below HB.out)
          have HMC : Hid (∀ (j t : Nat), (x :: rest)[j]? = some t → t < ns.length ∧ wr.cell? ⟨go, i + j, none⟩ = some (.int .i64 (t : Int))) := Mm.hid (fun j t ht => ⟨hlt.out t (List.mem_of_getElem? ht), (World.cell?_of_block (a := ⟨go, i + j, none⟩) HG.out).trans (HC.out (i + j) t (by rw [HA.out.1, List.getElem?_append_right (by omega), Nat.add_sub_cancel_left]; exact ht))⟩)
          have HGL : Hid (go < wr.heap.size) := Mm.hid (HWd.out.lts HGO.out.2)
          have HN2 : Hid (kv.length < 100000) := Mm.hid (by rw [HWd.out.kl]; exact hN.out.2.2.2)
          have c8 := HWd.out.at 8 rfl
          have cCo := Mm.contains_any q d (E x) x wr (by have := hN.out; omega) he4
          have HCo := Mm.hid cCo
          clear he2 he3 he4 he5 eE cCo
          by_cases hr0 : r = 0
          · subst hr0
            obtain ⟨b, hb⟩ : ∃ b, (E x).contains x = b := ⟨_, rfl⟩
            have hCo := HCo.out
            rw [hb] at hCo
            have HC2 := Mm.hid hCo
            obtain rfl : kb = b := by rw [hkk.out, hb, HML.out]; simp
            clear hb hCo HCo
            cases kb
            · go_wp2_with (go_at_call 56; refine HC2.out.mono ?_; rintro e w' ⟨rfl, hq⟩; obtain rfl := hq.symm)
              go_end0
              exact ⟨rfl, _, _, ⟨_, HWd.out⟩, HE.out.1, HE.out.2, HB.out⟩
            · go_wp2_with (go_at_call 56; refine HC2.out.mono ?_; rintro e w' ⟨rfl, hq⟩; obtain rfl := hq.symm)
              go_region_law (first
                | (refine Mm.stepCall rfl 57 #[.pointer (some ⟨p, 0, none⟩), .slice (some ⟨go, i, none⟩) (1) (co - i)] (by kernel_rfl) (rising_any h _ tag1 p ns E sv _ z1 kv go i (co - i) (1) (x :: rest) (Mm.hid (by first | exact HWd.out | exact HWd.out.drew)) (Mm.hid (by first | exact HGr.out | exact HGr.out.drew)) (Mm.hid HML.out.symm) (by omega) (by omega) HMC HGL) (fun e w2 hR => ?_)
                   obtain ⟨g2, rfl, hg2, hown2, hb2⟩ := hR
                   refine ⟨_, rfl, ?_⟩
                   have HR2 := Mm.hid (And.intro hg2 (And.intro hown2 hb2))
                   have HW2 : Hid (Mm.Wk h w2 tag1 p ns { s with opn := pre, num := Tj.closeN s.num (x :: rest) } z1 kv) := Mm.hid (by first | exact HWd.out.below hb2 | exact HWd.out.drew.below hb2)
                   have HB2 : Hid (Below h w w2) := Mm.hid (HB.out.trans (Below.mono (Below.trans (Below.refl _ _).drew hb2) (Nat.le_trans hh HB.out.size)))
                   have c8d : (w2.alloc (.cells #[.slice (some ⟨g2, 0, none⟩) (1) (1)] 28)).cell? ⟨p, 8, none⟩ = some z1.vk := (HW2.out.below ((Below.refl _ _).alloc (Nat.le_refl _) _)).at 8 rfl
                   have c8b : w2.cell? ⟨p, 8, none⟩ = some z1.vk := HW2.out.at 8 rfl
                   clear hg2 hown2 hb2)
                | (refine Mm.stepS rfl _ _ rfl h z1.vk (.slice (some ⟨g2, 0, none⟩) (1) (1)) rfl kv rfl (by first | exact (HW2.out.below ((Below.refl _ _).alloc (Nat.le_refl _) _)).kn.own | exact (HW2.out.below ((Below.refl _ _).alloc (Nat.le_refl _) _)).drew.kn.own | exact (HW2.out.drew.below ((Below.refl _ _).alloc (Nat.le_refl _) _)).kn.own) w2.heap.size rfl (by first | exact Mm.cellOf (Mm.newAt w2 _ rfl) rfl) (by have := HN2.out; omega) (by have := HR2.out.2.2.size; have := HB.out.size; simp at *; omega) ?_
                   intro v3 w3 hown3 hg3 hloc3
                   obtain ⟨g3, n3, cc3, rfl, hn3, _⟩ := hown3.nonnil (by simp)
                   have hW3 := HW2.out.putKn (m := x :: rest) (r := .slice (some ⟨g2, 0, none⟩) (1) (1)) (Mm.grAl hg3) hown3 (by
                     rcases hloc3 with e | e
                     · exact Or.inl e
                     · exact Or.inr (fun g hg => Nat.le_of_succ_le (by have := e g hg; simpa using this))) (HR2.out.2.1.base (Nat.le_trans hh HB.out.size)) (fun g hg => by injection hg with hg; rw [← hg]; exact HWd.out.top g2 HR2.out.1)
                   have hp3 := HW2.out.grown (Mm.grAl hg3) HW2.out.kn.tg (by simp)
                   have c8c : w3.cell? ⟨p, 8, none⟩ = some z1.vk := (World.cell?_of_block (a := ⟨p, 8, none⟩) hp3).trans c8b
                   have f8c : w3.frozen? ⟨p, 8, none⟩ = false := (World.frozen?_of_block (a := ⟨p, 8, none⟩) hp3).trans (HW2.out.fr 8)
                   have HW3 := Mm.hid hW3
                   have HB3 := Mm.hid ((HB2.out.trans (HW2.out.grBel (Nat.le_trans hh HB2.out.size) (Mm.grAl hg3) HW2.out.kn.tg)).setCell (p := ⟨p, 8, none⟩) (hT.out.ge hT.out.tp) (.slice (some ⟨g3, 0, none⟩) n3 cc3))
                   clear hown3 hg3 hloc3 hn3 hW3 hp3))
              all_goals
                go_wp2
                go_end0
                exact ⟨rfl, _, _, ⟨_, HW3.out⟩, HE.out.1, HE.out.2, HB3.out⟩
          · have hr1 : 0 < r := by omega
            obtain rfl : kb = true := by rw [hkk.out, HML.out]; simp; omega
            clear HCo c1 he1
            go_wp2_with fail
            go_region_law (first
              | (refine Mm.stepCall rfl 57 #[.pointer (some ⟨p, 0, none⟩), .slice (some ⟨go, i, none⟩) (r + 1) (co - i)] (by kernel_rfl) (rising_any h _ tag1 p ns E sv _ z1 kv go i (co - i) (r + 1) (x :: rest) (Mm.hid (by first | exact HWd.out | exact HWd.out.drew)) (Mm.hid (by first | exact HGr.out | exact HGr.out.drew)) (Mm.hid HML.out.symm) (by omega) (by omega) HMC HGL) (fun e w2 hR => ?_)
                 obtain ⟨g2, rfl, hg2, hown2, hb2⟩ := hR
                 refine ⟨_, rfl, ?_⟩
                 have HR2 := Mm.hid (And.intro hg2 (And.intro hown2 hb2))
                 have HW2 : Hid (Mm.Wk h w2 tag1 p ns { s with opn := pre, num := Tj.closeN s.num (x :: rest) } z1 kv) := Mm.hid (by first | exact HWd.out.below hb2 | exact HWd.out.drew.below hb2)
                 have HB2 : Hid (Below h w w2) := Mm.hid (HB.out.trans (Below.mono (Below.trans (Below.refl _ _).drew hb2) (Nat.le_trans hh HB.out.size)))
                 have c8d : (w2.alloc (.cells #[.slice (some ⟨g2, 0, none⟩) (r + 1) (r + 1)] 28)).cell? ⟨p, 8, none⟩ = some z1.vk := (HW2.out.below ((Below.refl _ _).alloc (Nat.le_refl _) _)).at 8 rfl
                 have c8b : w2.cell? ⟨p, 8, none⟩ = some z1.vk := HW2.out.at 8 rfl
                 clear hg2 hown2 hb2)
              | (refine Mm.stepS rfl _ _ rfl h z1.vk (.slice (some ⟨g2, 0, none⟩) (r + 1) (r + 1)) rfl kv rfl (by first | exact (HW2.out.below ((Below.refl _ _).alloc (Nat.le_refl _) _)).kn.own | exact (HW2.out.below ((Below.refl _ _).alloc (Nat.le_refl _) _)).drew.kn.own | exact (HW2.out.drew.below ((Below.refl _ _).alloc (Nat.le_refl _) _)).kn.own) w2.heap.size rfl (by first | exact Mm.cellOf (Mm.newAt w2 _ rfl) rfl) (by have := HN2.out; omega) (by have := HR2.out.2.2.size; have := HB.out.size; simp at *; omega) ?_
                 intro v3 w3 hown3 hg3 hloc3
                 obtain ⟨g3, n3, cc3, rfl, hn3, _⟩ := hown3.nonnil (by simp)
                 have hW3 := HW2.out.putKn (m := x :: rest) (r := .slice (some ⟨g2, 0, none⟩) (r + 1) (r + 1)) (Mm.grAl hg3) hown3 (by
                   rcases hloc3 with e | e
                   · exact Or.inl e
                   · exact Or.inr (fun g hg => Nat.le_of_succ_le (by have := e g hg; simpa using this))) (HR2.out.2.1.base (Nat.le_trans hh HB.out.size)) (fun g hg => by injection hg with hg; rw [← hg]; exact HWd.out.top g2 HR2.out.1)
                 have hp3 := HW2.out.grown (Mm.grAl hg3) HW2.out.kn.tg (by simp)
                 have c8c : w3.cell? ⟨p, 8, none⟩ = some z1.vk := (World.cell?_of_block (a := ⟨p, 8, none⟩) hp3).trans c8b
                 have f8c : w3.frozen? ⟨p, 8, none⟩ = false := (World.frozen?_of_block (a := ⟨p, 8, none⟩) hp3).trans (HW2.out.fr 8)
                 have HW3 := Mm.hid hW3
                 have HB3 := Mm.hid ((HB2.out.trans (HW2.out.grBel (Nat.le_trans hh HB2.out.size) (Mm.grAl hg3) HW2.out.kn.tg)).setCell (p := ⟨p, 8, none⟩) (hT.out.ge hT.out.tp) (.slice (some ⟨g3, 0, none⟩) n3 cc3))
                 clear hown3 hg3 hloc3 hn3 hW3 hp3))
            all_goals
              go_wp2
              go_end0
              exact ⟨rfl, _, _, ⟨_, HW3.out⟩, HE.out.1, HE.out.2, HB3.out⟩
    · obtain ⟨j, rfl⟩ : ∃ j, i = j + 1 := ⟨i - 1, by omega⟩
      obtain ⟨y, hy⟩ : ∃ y, (pre ++ x :: rest)[j + 1]? = some y := ⟨_, List.getElem?_eq_getElem (by simp; have := HA.out; omega)⟩
      have cy := HC.out (j + 1) y hy
      have hyx : y ≠ x := fun e => by
        subst e
        rw [List.getElem?_append_right (by have := HA.out; omega), show j + 1 - pre.length = (j - pre.length) + 1 from by have := HA.out; omega, List.getElem?_cons_succ] at hy
        exact hnd.out (List.mem_of_getElem? hy)
      have nx : ((y : Int) != (x : Int)) = true := by simp; omega
      clear hyx hy
      go_wp2_with fail
      go_round
      case rel => exact ⟨j, by omega, by omega, by go_num⟩
      case measure => simp [intOf]
end Go.Proofs.Ythikdfcndppoaaa
