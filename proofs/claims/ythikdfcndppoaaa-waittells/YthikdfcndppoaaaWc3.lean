/- WaitOrder: the law walked. -/
import Derived.Test.YthikdfcndppoaaaWd0
namespace Go.Proofs.Ythikdfcndppoaaa
open Go.RowKit

namespace Mm
/-- The same edges, however often. -/
def Sm (l m : Kn.El) : Prop := ∀ e, e ∈ l ↔ e ∈ m
theorem Sm.r {l m : Kn.El} (h : Sm l m) (a b : Int) : Kn.R l a b ↔ Kn.R m a b := h (a, b)
/-- Two of them exchanged. -/
def swp (l : Kn.El) (x y : Nat) (ex ey : Int × Int) : Kn.El := (l.set x ey).set y ex
theorem swp_mem {l : Kn.El} {x y : Nat} {ex ey : Int × Int} (hx : l[x]? = some ex) (hy : l[y]? = some ey) : Sm l (swp l x y ex ey) := fun e => by
  have lx := (List.getElem?_eq_some_iff.1 hx).1
  have ly := (List.getElem?_eq_some_iff.1 hy).1
  have at_ : ∀ j, (swp l x y ex ey)[j]? = if y = j then (if j < l.length then some ex else none) else if x = j then (if j < l.length then some ey else none) else l[j]? := fun j => by
    unfold swp
    rw [List.getElem?_set, List.getElem?_set, List.length_set]
    by_cases e1 : y = j
    · subst e1; simp
    · rw [if_neg e1, if_neg e1]
      by_cases e2 : x = j
      · subst e2; simp
      · rw [if_neg e2, if_neg e2]
  rw [List.mem_iff_getElem?, List.mem_iff_getElem?]
  constructor
  · rintro ⟨j, hj⟩
    by_cases e1 : y = j
    · subst e1
      refine ⟨x, ?_⟩
      rw [at_]
      by_cases e2 : y = x
      · subst e2; rw [if_pos rfl, if_pos ly, ← hj, hy, ← hx, hy]
      · rw [if_neg e2, if_pos rfl, if_pos lx, ← hj, hy]
    · by_cases e2 : x = j
      · subst e2
        exact ⟨y, by rw [at_, if_pos rfl, if_pos ly, ← hj, hx]⟩
      · exact ⟨j, by rw [at_, if_neg e1, if_neg e2, hj]⟩
  · rintro ⟨j, hj⟩
    rw [at_] at hj
    by_cases e1 : y = j
    · subst e1
      rw [if_pos rfl, if_pos ly] at hj
      exact ⟨x, by rw [hx]; exact hj⟩
    · rw [if_neg e1] at hj
      by_cases e2 : x = j
      · subst e2
        rw [if_pos rfl, if_pos lx] at hj
        exact ⟨y, by rw [hy]; exact hj⟩
      · rw [if_neg e2] at hj
        exact ⟨j, hj⟩
theorem flat_at (l : Kn.El) (j : Nat) (e : Int × Int) (h : l[j]? = some e) : (flat l)[j * 2]? = some e.1 ∧ (flat l)[j * 2 + 1]? = some e.2 := by
  obtain ⟨c1, c2⟩ := cellsE_at l j e h
  unfold cellsE its at c1 c2
  rw [List.getElem?_map, Option.map_eq_some_iff] at c1 c2
  obtain ⟨a, h1, h2⟩ := c1
  obtain ⟨b, h3, h4⟩ := c2
  injection h2 with _ h2
  injection h4 with _ h4
  exact ⟨by rw [h1, h2], by rw [h3, h4]⟩
theorem cellsE_set : ∀ (l : Kn.El) (i : Nat) (a b : Int), cellsE (l.set i (a, b)) = ((cellsE l).set (i * 2) (.int .i64 a)).set (i * 2 + 1) (.int .i64 b)
  | [], i, a, b => by simp [cellsE, flat, its]
  | x :: l, 0, a, b => by simp [cellsE, flat, its]
  | x :: l, i + 1, a, b => by
    have ih := cellsE_set l i a b
    have e : ∀ t : Kn.El, cellsE (x :: t) = .int .i64 x.1 :: .int .i64 x.2 :: cellsE t := fun t => by simp [cellsE, flat, its]
    rw [List.set_cons_succ, e, e, show (i + 1) * 2 = i * 2 + 1 + 1 from by omega, show i * 2 + 1 + 1 + 1 = (i * 2 + 1) + 1 + 1 from rfl, List.set_cons_succ, List.set_cons_succ, List.set_cons_succ, List.set_cons_succ, ih]
/-- A store of an edge. -/
theorem EOwn.set {w : World} {base g n c : Nat} {l : Kn.El} (h : EOwn w base (.slice (some ⟨g, 0, none⟩) n c) l) (i : Nat) (a b : Int) : EOwn ((w.setCell ⟨g, i * 2, none⟩ (.int .i64 a)).setCell ⟨g, i * 2 + 1, none⟩ (.int .i64 b)) base (.slice (some ⟨g, 0, none⟩) n c) (l.set i (a, b)) := by
  obtain ⟨h0, ⟨h1, _⟩ | ⟨g', cap, cur, e, hb, hg, q1, q2, q3, q4⟩⟩ := h
  · cases h1
  · cases e
    refine ⟨by rw [cellsE_len], Or.inr ⟨g, c, (cur.setIfInBounds (i * 2) (.int .i64 a)).setIfInBounds (i * 2 + 1) (.int .i64 b), by rw [List.length_set], hb, ?_, by rw [List.length_set]; exact q1, q2, by simpa using q3, ?_⟩⟩
    · exact heap_setCell_same _ g (i * 2 + 1) _ _ _ (heap_setCell_same w g (i * 2) cur _ _ hg)
    · rw [List.length_set, cellsE_set, Array.toList_setIfInBounds, Array.toList_setIfInBounds, List.take_set, List.take_set, q4]
theorem EOwn.some' {w : World} {base : Nat} {v : Value} {l : Kn.El} (h : EOwn w base v l) (hl : l ≠ []) : ∃ g n c, v = .slice (some ⟨g, 0, none⟩) n c ∧ n = l.length ∧ n ≤ c ∧ base ≤ g ∧ g < w.heap.size ∧ ∀ (j : Nat) (e : Int × Int), l[j]? = some e → w.cell? ⟨g, j * 2, none⟩ = some (.int .i64 e.1) ∧ w.cell? ⟨g, j * 2 + 1, none⟩ = some (.int .i64 e.2) ∧ (∀ i, w.frozen? ⟨g, i, none⟩ = false) := by
  obtain ⟨h0, ⟨h1, h2⟩ | ⟨g, cap, cur, h1, h2, h3, h4, h5, h6, h7⟩⟩ := h
  · exact absurd (List.length_eq_zero_iff.1 h2) hl
  · refine ⟨g, _, cap, h1, rfl, h4, h2, heapLt h3, fun j e he => ?_⟩
    obtain ⟨c1, c2⟩ := cellsE_at l j e he
    have hc : ∀ (i : Nat) (u : Value), (cellsE l)[i]? = some u → w.cell? ⟨g, i, none⟩ = some u := fun i u hu => by
      have hi : i < l.length * 2 := by rw [← cellsE_len]; exact (List.getElem?_eq_some_iff.1 hu).1
      refine cellOf h3 ?_
      rw [← h7, List.getElem?_take_of_lt hi] at hu
      simpa using hu
    exact ⟨hc _ _ c1, hc _ _ c2, fun i => by simp [World.frozen?, h3]⟩
def S2 (b1 o1 : Nat) (v1 : Value) (b2 o2 : Nat) (v2 : Value) (W w' : World) : Prop := w'.cell? ⟨b1, o1, none⟩ = some v1 ∧ w'.cell? ⟨b2, o2, none⟩ = some v2 ∧ Below W.heap.size W w'
theorem S2.keep {b1 o1 : Nat} {v1 : Value} {b2 o2 : Nat} {v2 : Value} {W w0 w1 : World} (hB : b1 < W.heap.size ∧ b2 < W.heap.size) (hb : Below w0.heap.size w0 w1) (h : S2 b1 o1 v1 b2 o2 v2 W w0) : S2 b1 o1 v1 b2 o2 v2 W w1 := by
  obtain ⟨h0, h1, h4⟩ := h
  have hz := h4.size
  exact ⟨(belAt hb _ (by omega)).trans h0, (belAt hb _ (by omega)).trans h1, belTr h4 (Nat.le_refl _) hb⟩
theorem S2.bel {b1 o1 : Nat} {v1 : Value} {b2 o2 : Nat} {v2 : Value} {W w' : World} (h : S2 b1 o1 v1 b2 o2 v2 W w') : Below W.heap.size W w' := h.2.2
theorem nums_at {w : World} {q : Option Addr} {l c : Nat} {xs : List Int} (h : Nms w q l c xs) {i : Nat} (hi : i < l) : ∃ x b o, xs[i]? = some x ∧ q = some ⟨b, o, .none⟩ ∧ b < w.heap.size ∧ w.cell? ⟨b, o + i, .none⟩ = some (.int .i64 x) := by
  obtain ⟨x, hx⟩ : ∃ x, xs[i]? = some x := ⟨_, List.getElem?_eq_getElem (by rw [h.len]; exact hi)⟩
  obtain ⟨b, o, h1, h2, h3⟩ := h.iin i x hx
  exact ⟨x, b, o, hx, h1, h2, h3⟩
end Mm

namespace Mm
/-- A number less than m. -/
def modR (a : Int) (m : Nat) : Nat := ((a.tmod (m : Int) + (m : Int)) % (m : Int)).toNat
theorem modR_lt (a : Int) {m : Nat} (h : 1 ≤ m) : modR a m < m := by
  have b4 : (a.tmod (m : Int) + (m : Int)) % (m : Int) < (m : Int) := Int.emod_lt_of_pos _ (by omega)
  unfold modR
  omega
end Mm

set_option maxHeartbeats 1000000 in
theorem modR_any (a : Int) (m : Nat) (w : World) (h1 : 1 ≤ m) (h2 : m ≤ 1000) :
    Calls Try.prog 15 #[.int .i64 a, .int .i64 (m : Int)] w fun e w' => e = .returned (.int .i64 (Mm.modR a m : Int)) ∧ w' = w := by
  have hd : decide ((m : Int) < 1) = false := decide_eq_false (by omega)
  have hz : ((m : Int) == 0) = false := beq_eq_false_iff_ne.2 (by omega)
  have hz' : ¬ (m : Int) = 0 := by omega
  go_enter Try.func15, Try.ntmps15
  go_wp2_with fail
  go_ret
  have b1 : a.tmod (m : Int) < (m : Int) := Int.tmod_lt_of_pos a (by omega)
  have b2 : -(m : Int) < a.tmod (m : Int) := Int.lt_tmod_of_pos a (by omega)
  have e1 : wrap64 (a.tmod (m : Int) + (m : Int)) = a.tmod (m : Int) + (m : Int) := by
    generalize a.tmod (m : Int) = t at *
    unfold wrap64
    omega
  have e2 : (a.tmod (m : Int) + (m : Int)).tmod (m : Int) = (a.tmod (m : Int) + (m : Int)) % (m : Int) := Int.tmod_eq_emod_of_nonneg (by omega)
  have b3 : 0 ≤ (a.tmod (m : Int) + (m : Int)) % (m : Int) := Int.emod_nonneg _ (by omega)
  refine ⟨?_, rfl⟩
  unfold Mm.modR
  show Ending.returned (Value.int .i64 ((wrap64 (a.tmod (m : Int) + (m : Int))).tmod (m : Int))) = _
  rw [e1, e2, Int.toNat_of_nonneg b3]


theorem wakes_tail (w w1 : World) (HB : Hid (Below w.heap.size w w1)) : Calls Try.prog 6 #[] w1 fun e w' => e = .returned (.bool true) ∧ Below w.heap.size w w' :=
  (wakes_any w1).mono (fun _ _ ⟨he, hb⟩ => ⟨he, Mm.belTr HB.out (Nat.le_refl _) hb⟩)

set_option maxRecDepth 100000 in
set_option maxHeartbeats 4000000 in
theorem waitOrder_law (w : World) (q : Option Addr) (c : Nat) (l : Kn.El) (n : Nat) (qt : Option Addr) (nt ct : Nat) (ts : List Int) (hl : Hid (Mm.EIn w q l)) (hn : Hid (n = l.length)) (hq : Hid (q = none → c = 0)) (ht : Hid (Mm.Nms w qt nt ct ts)) :
    Calls Try.prog 5 #[.slice q n c, .slice qt nt ct] w fun e w' => e = .returned (.bool true) ∧ Below w.heap.size w w' := by
  by_cases h30 : 30 < n
  · go_enter Try.func5, Try.ntmps5
    go_wp2_with (go_at_call 6; refine (wakes_tail w w (Mm.hid (Below.refl _ _))).mono ?_; rintro e w1 ⟨rfl, hb⟩; have HB := Mm.hid hb; clear hb)
    go_ret
    exact ⟨rfl, HB.out⟩
  · have hn30 : n ≤ 30 := by omega
    by_cases h100 : 100 < nt
    · go_enter Try.func5, Try.ntmps5
      go_wp2_with (go_at_call 6; refine (wakes_tail w w (Mm.hid (Below.refl _ _))).mono ?_; rintro e w1 ⟨rfl, hb⟩; have HB := Mm.hid hb; clear hb)
      go_ret
      exact ⟨rfl, HB.out⟩
    · have hnt : nt ≤ 100 := by omega
      go_enter Try.func5, Try.ntmps5
      go_wp2_with fail
      refine (few_any w q c n l hl hn (by omega) hq).mono ?_
      rintro e w1 ⟨v1, rfl, ho1, hb1⟩
      have HO1 := Mm.hid ho1
      have HB1 := Mm.hid hb1
      clear ho1 hb1
      go_wp2_with fail
      go_loopw [5, 6] (fun v5 v6 wr => ∃ (i : Nat) (L : Kn.El), i ≤ nt ∧ v6 = .int .i64 (i : Int) ∧ Hid (L.length ≤ n + i ∧ Mm.Sm l L) ∧ Hid (Mm.EOwn wr w.heap.size v5 L) ∧ Hid (Below w.heap.size w wr)) (fun _ v6 _ => nt - (RowKit.intOf v6).toNat)
      case atStart => exact ⟨0, l, by omega, rfl, Mm.hid ⟨by rw [hn.out]; exact Nat.le_refl _, fun _ => Iff.rfl⟩, HO1, HB1⟩
      case round =>
        obtain ⟨i, L, hi, rfl, HL, HO, HB⟩ := hrel
        rename World => wr
        clear HO1 HB1
        obtain ⟨N, hN⟩ : ∃ N, N = L.length := ⟨_, rfl⟩
        have hNN : N ≤ 130 := by have := HL.out.1; omega
        obtain ⟨q1, c1, e1, hc1, he1, hq1, _⟩ := HO.out.ein
        rw [← hN] at e1 hc1
        have HN := Mm.hid hN
        have HE1 := Mm.hid he1
        clear he1 hq1
        by_cases hgo : i < nt ∧ 0 < N
        · obtain ⟨hlt, hN0⟩ := hgo
          obtain ⟨g, n', c', e2, hn', hc', hbg, hgl, hcells⟩ := HO.out.some' (fun e => by rw [e] at hN; simp at hN; omega)
          rw [← hN] at hn'
          subst hn'
          subst e2
          have HCE := Mm.hid hcells
          have HGL := Mm.hid (And.intro hbg hgl)
          obtain ⟨tv, bt, ot, htv, rfl, hbt, hct⟩ := Mm.nums_at ht.out hlt
          have hct' := (Mm.belAt HB.out (ot + i) hbt).trans hct
          obtain ⟨X, hX⟩ : ∃ X, X = i % n' := ⟨_, rfl⟩
          have hXN : X < n' := by rw [hX]; exact Nat.mod_lt _ hN0
          have htm : (i : Int).tmod (n' : Int) = (X : Int) := by rw [hX]; rfl
          have hz : ((n' : Int) == 0) = false := by simp; omega
          have HX := Mm.hid hX
          clear hcells hbg hgl htv hbt hct hN hX e1 hc1 HE1
          go_wp2_with fail
          go_quiet ((go_at_call 15; exact Calls.quiet_of_same (modR_any _ _ _ (by omega) (by omega))))
          have hbd : Below wr.heap.size wr (wr.drewN nq) := Mm.belDrewN (Below.refl _ _) nq
          obtain ⟨w2, hw2⟩ : ∃ w2, wr.drewN nq = w2 := ⟨_, rfl⟩
          rw [hw2] at hbd ⊢
          obtain ⟨Y, hY⟩ : ∃ Y, Y = Mm.modR tv n' := ⟨_, rfl⟩
          rw [← hY]
          have hYN : Y < n' := by rw [hY]; exact Mm.modR_lt tv hN0
          obtain ⟨ex, hex⟩ : ∃ ex, L[X]? = some ex := ⟨_, List.getElem?_eq_getElem (by rw [← HN.out]; exact hXN)⟩
          obtain ⟨ey, hey⟩ : ∃ ey, L[Y]? = some ey := ⟨_, List.getElem?_eq_getElem (by rw [← HN.out]; exact hYN)⟩
          obtain ⟨x1, x2⟩ := ex
          obtain ⟨y1, y2⟩ := ey
          obtain ⟨a1, a2, fz⟩ := HCE.out X _ hex
          obtain ⟨b1, b2, _⟩ := HCE.out Y _ hey
          simp only at a1 a2 b1 b2
          have d1 := (Mm.belAt hbd (X * 2) HGL.out.2).trans a1
          have d2 := (Mm.belAt hbd (X * 2 + 1) HGL.out.2).trans a2
          have d3 := (Mm.belAt hbd (Y * 2) HGL.out.2).trans b1
          have d4 := (Mm.belAt hbd (Y * 2 + 1) HGL.out.2).trans b2
          have fr : ∀ i, w2.frozen? ⟨g, i, none⟩ = false := fun i => by rw [hbd.frozen (p := ⟨g, i, none⟩) HGL.out.2]; exact fz i
          have f1 := fr (X * 2)
          have f2 := fr (X * 2 + 1)
          have f3 := fr (Y * 2)
          have f4 := fr (Y * 2 + 1)
          have HO2 := Mm.hid (HO.out.keep hbd)
          have HB2 := Mm.hid (Mm.belTr HB.out (Nat.le_refl _) hbd)
          have HXY := Mm.hid (And.intro hex hey)
          clear hw2 hY hex hey a1 a2 b1 b2 fz fr hbd hct' htm hz
          go_wp2_with fail
          rcases Nat.lt_trichotomy X Y with hc | hc | hc
          · go_region
            obtain ⟨w3, hw3⟩ : ∃ w3, ((((w2.setCell ⟨g, X * 2, none⟩ (.int .i64 y1)).setCell ⟨g, X * 2 + 1, none⟩ (.int .i64 y2)).setCell ⟨g, Y * 2, none⟩ (.int .i64 x1)).setCell ⟨g, Y * 2 + 1, none⟩ (.int .i64 x2)).drew = w3 := ⟨_, rfl⟩
            have hO3 := ((HO2.out.set X y1 y2).set Y x1 x2).keep (Below.refl _ _).drew
            have hB3 := ((((HB2.out.setCell (p := ⟨g, X * 2, none⟩) HGL.out.1 (.int .i64 y1)).setCell (p := ⟨g, X * 2 + 1, none⟩) HGL.out.1 (.int .i64 y2)).setCell (p := ⟨g, Y * 2, none⟩) HGL.out.1 (.int .i64 x1)).setCell (p := ⟨g, Y * 2 + 1, none⟩) HGL.out.1 (.int .i64 x2)).drew
            have hS3 := Mm.swp_mem HXY.out.1 HXY.out.2
            unfold Mm.swp at hS3
            obtain ⟨L3, hL3⟩ : ∃ L3, L3 = (L.set X (y1, y2)).set Y (x1, x2) := ⟨_, rfl⟩
            rw [hw3, ← hL3] at hO3
            rw [hw3] at hB3 ⊢
            rw [← hL3] at hS3
            have hlen3 : L3.length = L.length := by rw [hL3, List.length_set, List.length_set]
            have HO3 := Mm.hid hO3
            have HB3 := Mm.hid hB3
            have HL3 : Hid (L3.length ≤ n + i ∧ Mm.Sm l L3 ∧ n' = L3.length) := Mm.hid ⟨by rw [hlen3]; exact HL.out.1, fun e => (HL.out.2 e).trans (hS3 e), by rw [hlen3]; exact HN.out⟩
            clear hw3 hO3 hB3 hS3 hL3 hlen3 d1 d2 d3 d4 f1 f2 f3 f4
            by_cases h3 : i % 3 = 0
            · have t3 : (i : Int) % 3 = 0 := by omega
              have u3 : (((i : Int) % 3) == 0) = true := by rw [t3]; rfl
              obtain ⟨g4, n4, c4, e4, hn4, hc4, hbg4, hgl4, hcells4⟩ := HO3.out.some' (fun e => by have := HL3.out.2.2; rw [e] at this; simp at this; omega)
              cases e4
              obtain ⟨ez, hez⟩ : ∃ ez, L3[X]? = some ez := ⟨_, List.getElem?_eq_getElem (by rw [← HL3.out.2.2]; exact hXN)⟩
              obtain ⟨z1, z2⟩ := ez
              obtain ⟨k1, k2, _⟩ := hcells4 _ _ hez
              simp only at k1 k2
              have HEZ := Mm.hid (List.mem_of_getElem? hez)
              clear h3 t3 hcells4 hn4 hez
              go_wp2_with (at_builtin; refine Mm.appE (w3.alloc (.cells #[.int .i64 z1, .int .i64 z2] 31)) rfl _ _ rfl w.heap.size (.slice (some ⟨g, 0, none⟩) n' c') L3 [(z1, z2)] rfl (HO3.out.keep ((Below.refl _ _).alloc (Nat.le_refl _) _)) (some ⟨w3.heap.size, 0, none⟩) 1 rfl (Mm.einNew w3 [(z1, z2)]) (fun e => nomatch e) (by have := HL3.out.2.2; simp; omega) (by have := HB3.out.size; simp; omega) ?_; intro v9 w9 hown9 hg9; have HX9 := Mm.hid (And.intro hown9 hg9); clear hown9 hg9)
              refine ⟨⟨i + 1, L3 ++ [(z1, z2)], by omega, by go_num, Mm.hid ⟨by rw [List.length_append]; have := HL3.out.1; simp; omega, fun e => (HL3.out.2.1 e).trans ?_⟩, Mm.hid HX9.out.1, Mm.hid ((Mm.belAl HB3.out (Nat.le_refl _) _).grown HX9.out.2 (by have := HB3.out.size; simp; omega) (fun k hk => by injection hk with hk; rw [← hk]; exact HGL.out.1))⟩, by simp [RowKit.intOf]; omega⟩
              rw [List.mem_append, List.mem_singleton]
              exact ⟨Or.inl, fun h => h.elim id (fun h => by rw [h]; exact HEZ.out)⟩
            · have t3 : ¬ (i : Int) % 3 = 0 := by omega
              have u3 : (((i : Int) % 3) == 0) = false := by simp; omega
              clear h3 t3
              go_wp2_with fail
              exact ⟨⟨i + 1, L3, by omega, by go_num, Mm.hid ⟨by have := HL3.out.1; omega, HL3.out.2.1⟩, HO3, HB3⟩, by simp [RowKit.intOf]; omega⟩
          · subst hc
            have hxy := HXY.out.1.symm.trans HXY.out.2
            injection hxy with hxy
            injection hxy with e1 e2
            subst e1 e2
            go_region
            obtain ⟨w3, hw3⟩ : ∃ w3, ((((w2.setCell ⟨g, X * 2, none⟩ (.int .i64 x1)).setCell ⟨g, X * 2 + 1, none⟩ (.int .i64 x2)).setCell ⟨g, X * 2, none⟩ (.int .i64 x1)).setCell ⟨g, X * 2 + 1, none⟩ (.int .i64 x2)).drew = w3 := ⟨_, rfl⟩
            have hO3 := ((HO2.out.set X x1 x2).set X x1 x2).keep (Below.refl _ _).drew
            have hB3 := ((((HB2.out.setCell (p := ⟨g, X * 2, none⟩) HGL.out.1 (.int .i64 x1)).setCell (p := ⟨g, X * 2 + 1, none⟩) HGL.out.1 (.int .i64 x2)).setCell (p := ⟨g, X * 2, none⟩) HGL.out.1 (.int .i64 x1)).setCell (p := ⟨g, X * 2 + 1, none⟩) HGL.out.1 (.int .i64 x2)).drew
            have hS3 := Mm.swp_mem HXY.out.1 HXY.out.2
            unfold Mm.swp at hS3
            obtain ⟨L3, hL3⟩ : ∃ L3, L3 = (L.set X (x1, x2)).set X (x1, x2) := ⟨_, rfl⟩
            rw [hw3, ← hL3] at hO3
            rw [hw3] at hB3 ⊢
            rw [← hL3] at hS3
            have hlen3 : L3.length = L.length := by rw [hL3, List.length_set, List.length_set]
            have HO3 := Mm.hid hO3
            have HB3 := Mm.hid hB3
            have HL3 : Hid (L3.length ≤ n + i ∧ Mm.Sm l L3 ∧ n' = L3.length) := Mm.hid ⟨by rw [hlen3]; exact HL.out.1, fun e => (HL.out.2 e).trans (hS3 e), by rw [hlen3]; exact HN.out⟩
            clear hw3 hO3 hB3 hS3 hL3 hlen3 d1 d2 d3 d4 f1 f2 f3 f4
            by_cases h3 : i % 3 = 0
            · have t3 : (i : Int) % 3 = 0 := by omega
              have u3 : (((i : Int) % 3) == 0) = true := by rw [t3]; rfl
              obtain ⟨g4, n4, c4, e4, hn4, hc4, hbg4, hgl4, hcells4⟩ := HO3.out.some' (fun e => by have := HL3.out.2.2; rw [e] at this; simp at this; omega)
              cases e4
              obtain ⟨ez, hez⟩ : ∃ ez, L3[X]? = some ez := ⟨_, List.getElem?_eq_getElem (by rw [← HL3.out.2.2]; exact hXN)⟩
              obtain ⟨z1, z2⟩ := ez
              obtain ⟨k1, k2, _⟩ := hcells4 _ _ hez
              simp only at k1 k2
              have HEZ := Mm.hid (List.mem_of_getElem? hez)
              clear h3 t3 hcells4 hn4 hez
              go_wp2_with (at_builtin; refine Mm.appE (w3.alloc (.cells #[.int .i64 z1, .int .i64 z2] 31)) rfl _ _ rfl w.heap.size (.slice (some ⟨g, 0, none⟩) n' c') L3 [(z1, z2)] rfl (HO3.out.keep ((Below.refl _ _).alloc (Nat.le_refl _) _)) (some ⟨w3.heap.size, 0, none⟩) 1 rfl (Mm.einNew w3 [(z1, z2)]) (fun e => nomatch e) (by have := HL3.out.2.2; simp; omega) (by have := HB3.out.size; simp; omega) ?_; intro v9 w9 hown9 hg9; have HX9 := Mm.hid (And.intro hown9 hg9); clear hown9 hg9)
              refine ⟨⟨i + 1, L3 ++ [(z1, z2)], by omega, by go_num, Mm.hid ⟨by rw [List.length_append]; have := HL3.out.1; simp; omega, fun e => (HL3.out.2.1 e).trans ?_⟩, Mm.hid HX9.out.1, Mm.hid ((Mm.belAl HB3.out (Nat.le_refl _) _).grown HX9.out.2 (by have := HB3.out.size; simp; omega) (fun k hk => by injection hk with hk; rw [← hk]; exact HGL.out.1))⟩, by simp [RowKit.intOf]; omega⟩
              rw [List.mem_append, List.mem_singleton]
              exact ⟨Or.inl, fun h => h.elim id (fun h => by rw [h]; exact HEZ.out)⟩
            · have t3 : ¬ (i : Int) % 3 = 0 := by omega
              have u3 : (((i : Int) % 3) == 0) = false := by simp; omega
              clear h3 t3
              go_wp2_with fail
              exact ⟨⟨i + 1, L3, by omega, by go_num, Mm.hid ⟨by have := HL3.out.1; omega, HL3.out.2.1⟩, HO3, HB3⟩, by simp [RowKit.intOf]; omega⟩
          · go_region
            obtain ⟨w3, hw3⟩ : ∃ w3, ((((w2.setCell ⟨g, X * 2, none⟩ (.int .i64 y1)).setCell ⟨g, X * 2 + 1, none⟩ (.int .i64 y2)).setCell ⟨g, Y * 2, none⟩ (.int .i64 x1)).setCell ⟨g, Y * 2 + 1, none⟩ (.int .i64 x2)).drew = w3 := ⟨_, rfl⟩
            have hO3 := ((HO2.out.set X y1 y2).set Y x1 x2).keep (Below.refl _ _).drew
            have hB3 := ((((HB2.out.setCell (p := ⟨g, X * 2, none⟩) HGL.out.1 (.int .i64 y1)).setCell (p := ⟨g, X * 2 + 1, none⟩) HGL.out.1 (.int .i64 y2)).setCell (p := ⟨g, Y * 2, none⟩) HGL.out.1 (.int .i64 x1)).setCell (p := ⟨g, Y * 2 + 1, none⟩) HGL.out.1 (.int .i64 x2)).drew
            have hS3 := Mm.swp_mem HXY.out.1 HXY.out.2
            unfold Mm.swp at hS3
            obtain ⟨L3, hL3⟩ : ∃ L3, L3 = (L.set X (y1, y2)).set Y (x1, x2) := ⟨_, rfl⟩
            rw [hw3, ← hL3] at hO3
            rw [hw3] at hB3 ⊢
            rw [← hL3] at hS3
            have hlen3 : L3.length = L.length := by rw [hL3, List.length_set, List.length_set]
            have HO3 := Mm.hid hO3
            have HB3 := Mm.hid hB3
            have HL3 : Hid (L3.length ≤ n + i ∧ Mm.Sm l L3 ∧ n' = L3.length) := Mm.hid ⟨by rw [hlen3]; exact HL.out.1, fun e => (HL.out.2 e).trans (hS3 e), by rw [hlen3]; exact HN.out⟩
            clear hw3 hO3 hB3 hS3 hL3 hlen3 d1 d2 d3 d4 f1 f2 f3 f4
            by_cases h3 : i % 3 = 0
            · have t3 : (i : Int) % 3 = 0 := by omega
              have u3 : (((i : Int) % 3) == 0) = true := by rw [t3]; rfl
              obtain ⟨g4, n4, c4, e4, hn4, hc4, hbg4, hgl4, hcells4⟩ := HO3.out.some' (fun e => by have := HL3.out.2.2; rw [e] at this; simp at this; omega)
              cases e4
              obtain ⟨ez, hez⟩ : ∃ ez, L3[X]? = some ez := ⟨_, List.getElem?_eq_getElem (by rw [← HL3.out.2.2]; exact hXN)⟩
              obtain ⟨z1, z2⟩ := ez
              obtain ⟨k1, k2, _⟩ := hcells4 _ _ hez
              simp only at k1 k2
              have HEZ := Mm.hid (List.mem_of_getElem? hez)
              clear h3 t3 hcells4 hn4 hez
              go_wp2_with (at_builtin; refine Mm.appE (w3.alloc (.cells #[.int .i64 z1, .int .i64 z2] 31)) rfl _ _ rfl w.heap.size (.slice (some ⟨g, 0, none⟩) n' c') L3 [(z1, z2)] rfl (HO3.out.keep ((Below.refl _ _).alloc (Nat.le_refl _) _)) (some ⟨w3.heap.size, 0, none⟩) 1 rfl (Mm.einNew w3 [(z1, z2)]) (fun e => nomatch e) (by have := HL3.out.2.2; simp; omega) (by have := HB3.out.size; simp; omega) ?_; intro v9 w9 hown9 hg9; have HX9 := Mm.hid (And.intro hown9 hg9); clear hown9 hg9)
              refine ⟨⟨i + 1, L3 ++ [(z1, z2)], by omega, by go_num, Mm.hid ⟨by rw [List.length_append]; have := HL3.out.1; simp; omega, fun e => (HL3.out.2.1 e).trans ?_⟩, Mm.hid HX9.out.1, Mm.hid ((Mm.belAl HB3.out (Nat.le_refl _) _).grown HX9.out.2 (by have := HB3.out.size; simp; omega) (fun k hk => by injection hk with hk; rw [← hk]; exact HGL.out.1))⟩, by simp [RowKit.intOf]; omega⟩
              rw [List.mem_append, List.mem_singleton]
              exact ⟨Or.inl, fun h => h.elim id (fun h => by rw [h]; exact HEZ.out)⟩
            · have t3 : ¬ (i : Int) % 3 = 0 := by omega
              have u3 : (((i : Int) % 3) == 0) = false := by simp; omega
              clear h3 t3
              go_wp2_with fail
              exact ⟨⟨i + 1, L3, by omega, by go_num, Mm.hid ⟨by have := HL3.out.1; omega, HL3.out.2.1⟩, HO3, HB3⟩, by simp [RowKit.intOf]; omega⟩
        · clear hN
          subst e1
          by_cases hlt : i < nt
          · obtain rfl : N = 0 := by omega
            clear hgo
            go_wp2_with fail
            refine (few_any wr q c n l (Mm.hid (hl.out.below HB.out)) hn (by omega) hq).mono ?_
            rintro e w4 ⟨v4, rfl, ho4, hb4⟩
            obtain ⟨q4, c4, e4, hc4, he4, _, _⟩ := ho4.ein
            rw [← hn.out] at e4 hc4
            subst e4
            have HE4 := Mm.hid he4
            have HB4 := Mm.hid (Mm.belTr HB.out (Nat.le_refl _) hb4)
            have HE14 := Mm.hid (HE1.out.below hb4)
            clear ho4 he4 hb4
            go_wp2_with fail
            refine (circles_any w4 q4 c4 l n HE4 hn (by omega)).mono ?_
            rintro e w5 ⟨qa, ca, K, rfl, hka, hK1, hkn, hb5⟩
            have HK := Mm.hid hkn
            have HKA := Mm.hid hka
            have HB5 := Mm.hid (Mm.belTr HB4.out (Nat.le_refl _) hb5)
            have HE15 := Mm.hid (HE14.out.below hb5)
            clear hkn hka hb5 HE4 HB4 HE14
            go_wp2_with fail
            refine (circles_any w5 q1 c1 L 0 HE15 HN (by omega)).mono ?_
            rintro e w6 ⟨qb, cb, K2, rfl, hkb, _, hkn2, hb6⟩
            obtain rfl : K2 = K := hkn2.one HK.out (fun a b => ((HL.out.2.r a b)).symm)
            have HKA6 := Mm.hid (HKA.out.below hb6)
            have HKB6 := Mm.hid hkb
            have HB6 := Mm.hid (Mm.belTr HB5.out (Nat.le_refl _) hb6)
            clear hkb hkn2 hb6 HE15 HB5 HKA
            obtain ⟨M, hM⟩ : ∃ M, M = K2.length := ⟨_, rfl⟩
            rw [← hM] at hK1 ⊢
            have HM := Mm.hid hM
            have hMM : ((M : Int) != (M : Int)) = false := by simp
            clear hM
            go_wp2_with fail
            go_loopw [11] (fun v wq => ∃ j : Nat, j ≤ M ∧ v = .int .i64 (j : Int) ∧ Hid (Below w6.heap.size w6 wq)) (fun v _ => M - (RowKit.intOf v).toNat)
            case atStart => exact ⟨0, by omega, rfl, Mm.hid (Below.refl _ _)⟩
            case round =>
              obtain ⟨j, hj, rfl, HBq⟩ := hrel
              rename World => wq
              by_cases hjm : j < M
              · obtain ⟨kk, hkk⟩ : ∃ kk, K2[j]? = some kk := ⟨_, List.getElem?_eq_getElem (by rw [← HM.out]; exact hjm)⟩
                obtain ⟨ba, oa, ga, cga, rfl, hal, ha1, ha2, hag, ha3⟩ := (HKA6.out.below HBq.out) j kk hkk
                obtain ⟨bb, ob, gb, cgb, rfl, hbl, hb1, hb2, hbg, hb3⟩ := (HKB6.out.below HBq.out) j kk hkk
                have hkl := Mm.knot_len HK.out (List.mem_of_getElem? hkk)
                have hkne := HK.out.ne kk (List.mem_of_getElem? hkk)
                have HIA : Hid (Mm.IIn wq (some ⟨ga, 0, none⟩) kk) := Mm.hid (fun i x hx => ⟨ga, 0, rfl, hag, by rw [Nat.zero_add]; exact ha3 i x hx⟩)
                have HIB : Hid (Mm.IIn wq (some ⟨gb, 0, none⟩) kk) := Mm.hid (fun i x hx => ⟨gb, 0, rfl, hbg, by rw [Nat.zero_add]; exact hb3 i x hx⟩)
                have HINT : Hid (∀ (W : World), Below wq.heap.size wq W → Calls Try.prog 10 #[.slice (some ⟨ga, 0, none⟩) kk.length cga, .slice (some ⟨gb, 0, none⟩) kk.length cgb] W fun e w' => e = .returned (.bool true) ∧ Below W.heap.size W w') := Mm.hid (fun (W : World) (hW : Below wq.heap.size wq W) => (ints_any kk kk (some ⟨ga, 0, none⟩) (some ⟨gb, 0, none⟩) cga cgb W (Mm.hid (HIA.out.below hW)) (Mm.hid (HIB.out.below hW)) (by have := hn.out; omega)).mono (fun _ _ h => ⟨h.1.trans (by rw [decide_eq_true rfl]), h.2⟩))
                obtain ⟨m, hm⟩ : ∃ m, m = kk.length := ⟨_, rfl⟩
                have hm0 : ((m : Int) == 0) = false := by
                  have : m ≠ 0 := fun e => hkne (List.length_eq_zero_iff.1 (by rw [← hm, e]))
                  simp; omega
                rw [← hm] at ha1 ha2 hb1 hb2 HINT
                have HBL := Mm.hid (And.intro hal hbl)
                have HS : Hid (Mm.S2 ba (oa + j) (.slice (some ⟨ga, 0, none⟩) m cga) bb (ob + j) (.slice (some ⟨gb, 0, none⟩) m cgb) wq wq.drew) := Mm.hid ⟨ha1, hb1, (Below.refl _ _).drew⟩
                clear ha3 hb3 hkl hkne hm hkk hal hbl hag hbg
                go_wp2_with fail
                go_region_held3 (fun w' => w'.cell? ⟨ba, oa + j, none⟩ = some (.slice (some ⟨ga, 0, none⟩) m cga) ∧ w'.cell? ⟨bb, ob + j, none⟩ = some (.slice (some ⟨gb, 0, none⟩) m cgb) ∧ Below wq.heap.size wq w')
                  (first | exact HS.out | exact Mm.S2.keep HBL.out hb (by assumption))
                  ((go_at_call 10; refine (HINT.out _ (Mm.S2.bel (b1 := ba) (o1 := oa + j) (v1 := .slice (some ⟨ga, 0, none⟩) m cga) (b2 := bb) (o2 := ob + j) (v2 := .slice (some ⟨gb, 0, none⟩) m cgb) (by first | assumption | exact HS.out))).mono ?_; rintro e w' ⟨rfl, hb⟩))
                all_goals
                  have hbw : Below wq.heap.size wq w' := Mm.S2.bel (b1 := ba) (o1 := oa + j) (v1 := .slice (some ⟨ga, 0, none⟩) m cga) (b2 := bb) (o2 := ob + j) (v2 := .slice (some ⟨gb, 0, none⟩) m cgb) (by assumption)
                  have HBW := Mm.hid hbw
                  clear hbw
                  go_wp2_with fail
                  exact ⟨⟨j + 1, by omega, by go_num, Mm.hid (Mm.belTr HBq.out (Nat.le_refl _) HBW.out)⟩, by simp [RowKit.intOf]; omega⟩
              · obtain rfl : j = M := by omega
                go_wp2_with fail
                refine (wakes_tail w wq (Mm.hid (Mm.belTr HB6.out (Nat.le_refl _) HBq.out))).mono ?_
                rintro e w9 ⟨rfl, hb⟩
                have HB9 := Mm.hid hb
                clear hb
                go_wp2_with fail
                go_ret
                exact ⟨rfl, HB9.out⟩
          · clear hgo
            go_wp2_with fail
            refine (few_any wr q c n l (Mm.hid (hl.out.below HB.out)) hn (by omega) hq).mono ?_
            rintro e w4 ⟨v4, rfl, ho4, hb4⟩
            obtain ⟨q4, c4, e4, hc4, he4, _, _⟩ := ho4.ein
            rw [← hn.out] at e4 hc4
            subst e4
            have HE4 := Mm.hid he4
            have HB4 := Mm.hid (Mm.belTr HB.out (Nat.le_refl _) hb4)
            have HE14 := Mm.hid (HE1.out.below hb4)
            clear ho4 he4 hb4
            go_wp2_with fail
            refine (circles_any w4 q4 c4 l n HE4 hn (by omega)).mono ?_
            rintro e w5 ⟨qa, ca, K, rfl, hka, hK1, hkn, hb5⟩
            have HK := Mm.hid hkn
            have HKA := Mm.hid hka
            have HB5 := Mm.hid (Mm.belTr HB4.out (Nat.le_refl _) hb5)
            have HE15 := Mm.hid (HE14.out.below hb5)
            clear hkn hka hb5 HE4 HB4 HE14
            go_wp2_with fail
            refine (circles_any w5 q1 c1 L N HE15 HN (by omega)).mono ?_
            rintro e w6 ⟨qb, cb, K2, rfl, hkb, _, hkn2, hb6⟩
            obtain rfl : K2 = K := hkn2.one HK.out (fun a b => ((HL.out.2.r a b)).symm)
            have HKA6 := Mm.hid (HKA.out.below hb6)
            have HKB6 := Mm.hid hkb
            have HB6 := Mm.hid (Mm.belTr HB5.out (Nat.le_refl _) hb6)
            clear hkb hkn2 hb6 HE15 HB5 HKA
            obtain ⟨M, hM⟩ : ∃ M, M = K2.length := ⟨_, rfl⟩
            rw [← hM] at hK1 ⊢
            have HM := Mm.hid hM
            have hMM : ((M : Int) != (M : Int)) = false := by simp
            clear hM
            go_wp2_with fail
            go_loopw [11] (fun v wq => ∃ j : Nat, j ≤ M ∧ v = .int .i64 (j : Int) ∧ Hid (Below w6.heap.size w6 wq)) (fun v _ => M - (RowKit.intOf v).toNat)
            case atStart => exact ⟨0, by omega, rfl, Mm.hid (Below.refl _ _)⟩
            case round =>
              obtain ⟨j, hj, rfl, HBq⟩ := hrel
              rename World => wq
              by_cases hjm : j < M
              · obtain ⟨kk, hkk⟩ : ∃ kk, K2[j]? = some kk := ⟨_, List.getElem?_eq_getElem (by rw [← HM.out]; exact hjm)⟩
                obtain ⟨ba, oa, ga, cga, rfl, hal, ha1, ha2, hag, ha3⟩ := (HKA6.out.below HBq.out) j kk hkk
                obtain ⟨bb, ob, gb, cgb, rfl, hbl, hb1, hb2, hbg, hb3⟩ := (HKB6.out.below HBq.out) j kk hkk
                have hkl := Mm.knot_len HK.out (List.mem_of_getElem? hkk)
                have hkne := HK.out.ne kk (List.mem_of_getElem? hkk)
                have HIA : Hid (Mm.IIn wq (some ⟨ga, 0, none⟩) kk) := Mm.hid (fun i x hx => ⟨ga, 0, rfl, hag, by rw [Nat.zero_add]; exact ha3 i x hx⟩)
                have HIB : Hid (Mm.IIn wq (some ⟨gb, 0, none⟩) kk) := Mm.hid (fun i x hx => ⟨gb, 0, rfl, hbg, by rw [Nat.zero_add]; exact hb3 i x hx⟩)
                have HINT : Hid (∀ (W : World), Below wq.heap.size wq W → Calls Try.prog 10 #[.slice (some ⟨ga, 0, none⟩) kk.length cga, .slice (some ⟨gb, 0, none⟩) kk.length cgb] W fun e w' => e = .returned (.bool true) ∧ Below W.heap.size W w') := Mm.hid (fun (W : World) (hW : Below wq.heap.size wq W) => (ints_any kk kk (some ⟨ga, 0, none⟩) (some ⟨gb, 0, none⟩) cga cgb W (Mm.hid (HIA.out.below hW)) (Mm.hid (HIB.out.below hW)) (by have := hn.out; omega)).mono (fun _ _ h => ⟨h.1.trans (by rw [decide_eq_true rfl]), h.2⟩))
                obtain ⟨m, hm⟩ : ∃ m, m = kk.length := ⟨_, rfl⟩
                have hm0 : ((m : Int) == 0) = false := by
                  have : m ≠ 0 := fun e => hkne (List.length_eq_zero_iff.1 (by rw [← hm, e]))
                  simp; omega
                rw [← hm] at ha1 ha2 hb1 hb2 HINT
                have HBL := Mm.hid (And.intro hal hbl)
                have HS : Hid (Mm.S2 ba (oa + j) (.slice (some ⟨ga, 0, none⟩) m cga) bb (ob + j) (.slice (some ⟨gb, 0, none⟩) m cgb) wq wq.drew) := Mm.hid ⟨ha1, hb1, (Below.refl _ _).drew⟩
                clear ha3 hb3 hkl hkne hm hkk hal hbl hag hbg
                go_wp2_with fail
                go_region_held3 (fun w' => w'.cell? ⟨ba, oa + j, none⟩ = some (.slice (some ⟨ga, 0, none⟩) m cga) ∧ w'.cell? ⟨bb, ob + j, none⟩ = some (.slice (some ⟨gb, 0, none⟩) m cgb) ∧ Below wq.heap.size wq w')
                  (first | exact HS.out | exact Mm.S2.keep HBL.out hb (by assumption))
                  ((go_at_call 10; refine (HINT.out _ (Mm.S2.bel (b1 := ba) (o1 := oa + j) (v1 := .slice (some ⟨ga, 0, none⟩) m cga) (b2 := bb) (o2 := ob + j) (v2 := .slice (some ⟨gb, 0, none⟩) m cgb) (by first | assumption | exact HS.out))).mono ?_; rintro e w' ⟨rfl, hb⟩))
                all_goals
                  have hbw : Below wq.heap.size wq w' := Mm.S2.bel (b1 := ba) (o1 := oa + j) (v1 := .slice (some ⟨ga, 0, none⟩) m cga) (b2 := bb) (o2 := ob + j) (v2 := .slice (some ⟨gb, 0, none⟩) m cgb) (by assumption)
                  have HBW := Mm.hid hbw
                  clear hbw
                  go_wp2_with fail
                  exact ⟨⟨j + 1, by omega, by go_num, Mm.hid (Mm.belTr HBq.out (Nat.le_refl _) HBW.out)⟩, by simp [RowKit.intOf]; omega⟩
              · obtain rfl : j = M := by omega
                go_wp2_with fail
                refine (wakes_tail w wq (Mm.hid (Mm.belTr HB6.out (Nat.le_refl _) HBq.out))).mono ?_
                rintro e w9 ⟨rfl, hb⟩
                have HB9 := Mm.hid hb
                clear hb
                go_wp2_with fail
                go_ret
                exact ⟨rfl, HB9.out⟩

theorem waitOrder_row (a : Option Addr) (l c : Nat) (z : Kn.El) (at' : Option Addr) (lt ct : Nat) (zt : List Int) (W : World) (b : Mm.Eds W a l c z) (bt : Mm.Nms W at' lt ct zt) : Calls Try.prog 5 #[.slice a l c, .slice at' lt ct] W fun e w' => e = .returned (.bool true) ∧ Below W.heap.size W w' :=
  waitOrder_law W a c z l at' lt ct zt (Mm.hid b.ein) (Mm.hid b.len.symm) (Mm.hid b.nil) (Mm.hid bt)
end Go.Proofs.Ythikdfcndppoaaa
