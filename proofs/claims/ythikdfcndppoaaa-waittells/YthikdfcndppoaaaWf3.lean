/- The reference's circles: what is kept. -/
import Derived.Test.YthikdfcndppoaaaWf2
import Derived.Test.YthikdfcndppoaaaWa11
namespace Go.Proofs.Ythikdfcndppoaaa
open Go.RowKit

namespace Mm
/-- A knot that grows. -/
structure Ck (l : Kn.El) (N : List Int) (n : Int) (j : Nat) (k : List Int) : Prop where
  up : Kn.Rising k
  mem : ∀ y, y ∈ k ↔ (y ∈ N.take j ∧ Rch (Kn.R l) n y ∧ Rch (Kn.R l) y n)
theorem Ck.start (l : Kn.El) (N : List Int) (n : Int) : Ck l N n 0 [] := ⟨List.Pairwise.nil, fun y => by simp⟩
theorem Ck.skip {l : Kn.El} {N : List Int} {n y : Int} {j : Nat} {k : List Int} (h : Ck l N n j k) (hy : N[j]? = some y) (hn : ¬ (Rch (Kn.R l) n y ∧ Rch (Kn.R l) y n)) : Ck l N n (j + 1) k :=
  ⟨h.up, fun z => by
    rw [h.mem z, take_snoc' hy, List.mem_append, List.mem_singleton]
    constructor
    · rintro ⟨h1, h2⟩; exact ⟨.inl h1, h2⟩
    · rintro ⟨h1 | rfl, h2⟩
      · exact ⟨h1, h2⟩
      · exact absurd h2 hn⟩
theorem Ck.add {l : Kn.El} {N : List Int} {n y : Int} {j : Nat} {k : List Int} (h : Ck l N n j k) (hN : Kn.Rising N) (hy : N[j]? = some y) (hn : Rch (Kn.R l) n y) (hn2 : Rch (Kn.R l) y n) : Ck l N n (j + 1) (k ++ [y]) := by
  refine ⟨List.pairwise_append.2 ⟨h.up, List.pairwise_singleton _ _, fun a ha b hb => ?_⟩, fun z => ?_⟩
  · rw [List.mem_singleton.1 hb]
    obtain ⟨i, hi⟩ := List.getElem?_of_mem ((h.mem a).1 ha).1
    rw [List.getElem?_take] at hi
    split at hi
    · have h1 := List.getElem?_eq_some_iff.1 hi
      have h2 := List.getElem?_eq_some_iff.1 hy
      have := (List.pairwise_iff_getElem.1 hN) i j h1.1 h2.1 (by assumption)
      rw [h1.2, h2.2] at this
      exact this
    · cases hi
  · rw [List.mem_append, h.mem z, take_snoc' hy, List.mem_append, List.mem_singleton]
    constructor
    · rintro (⟨h1, h2⟩ | rfl)
      · exact ⟨.inl h1, h2⟩
      · exact ⟨.inr rfl, hn, hn2⟩
    · rintro ⟨h1 | rfl, h2⟩
      · exact .inl ⟨h1, h2⟩
      · exact .inr rfl
theorem Ck.len {l : Kn.El} {N : List Int} {n : Int} {j : Nat} {k : List Int} (h : Ck l N n j k) : k.length ≤ N.length :=
  nodup_sub k N (rising_nodup h.up) (fun x hx => List.mem_of_mem_take ((h.mem x).1 hx).1)
/-- The knots so far. -/
structure Cs (l : Kn.El) (N : List Int) (i : Nat) (D : List Int) (K : List (List Int)) : Prop where
  ne : ∀ k ∈ K, k ≠ []
  up : ∀ k ∈ K, Kn.Rising k
  scc : ∀ k ∈ K, ∀ x ∈ k, ∀ y, y ∈ k ↔ (Rch (Kn.R l) x y ∧ Rch (Kn.R l) y x)
  dn : ∀ x, x ∈ D ↔ ∃ k ∈ K, x ∈ k
  all : ∀ (j : Nat) (x : Int), j < i → N[j]? = some x → Rch (Kn.R l) x x → x ∈ D
  ord : K.Pairwise (fun a b => a.headD 0 < b.headD 0)
  hd : ∀ k ∈ K, ∃ j, j < i ∧ N[j]? = some (k.headD 0)
  kl : K.length ≤ i
  dl : D.length ≤ i * N.length
theorem Cs.start (l : Kn.El) (N : List Int) : Cs l N 0 [] [] :=
  ⟨fun k h => by simp at h, fun k h => by simp at h, fun k h => by simp at h, fun x => by simp, fun j x h => absurd h (Nat.not_lt_zero j), List.Pairwise.nil, fun k h => by simp at h, by simp, by simp⟩
theorem Cs.skip {l : Kn.El} {N : List Int} {i : Nat} {D : List Int} {K : List (List Int)} (h : Cs l N i D K) {n : Int} (hn : N[i]? = some n) (hs : n ∈ D ∨ ¬ Rch (Kn.R l) n n) : Cs l N (i + 1) D K :=
  ⟨h.ne, h.up, h.scc, h.dn, fun j x hj hx hr => by
    by_cases e : j = i
    · subst e
      rw [hn] at hx
      injection hx with hx
      subst hx
      rcases hs with hs | hs
      · exact hs
      · exact absurd hr hs
    · exact h.all j x (by omega) hx hr, h.ord, fun k hk => by
    obtain ⟨j, h1, h2⟩ := h.hd k hk
    exact ⟨j, by omega, h2⟩, by have := h.kl; omega, by have := h.dl; rw [Nat.add_mul]; omega⟩
theorem Cs.add {l : Kn.El} {N : List Int} {i : Nat} {D : List Int} {K : List (List Int)} (h : Cs l N i D K) (hN : Kn.Rising N) (hnd : ∀ x, x ∈ N ↔ Kn.Nd l x) {n : Int} (hn : N[i]? = some n) (hr : Rch (Kn.R l) n n) (hd : n ∉ D) {k : List Int} {j : Nat} (hk : Ck l N n j k) (hj : j = N.length) : Cs l N (i + 1) (D ++ k) (K ++ [k]) := by
  have hmem : ∀ y, y ∈ k ↔ (Rch (Kn.R l) n y ∧ Rch (Kn.R l) y n) := fun y => by
    rw [hk.mem y, hj, List.take_length]
    constructor
    · exact fun h => h.2
    · intro h2
      refine ⟨(hnd y).2 ?_, h2⟩
      obtain ⟨c, hc, _⟩ := h2.2.first
      exact ⟨(y, c), hc, .inl rfl⟩
  have hnk : n ∈ k := (hmem n).2 ⟨hr, hr⟩
  have hil := (List.getElem?_eq_some_iff.1 hn)
  have hge : ∀ y ∈ k, n ≤ y := fun y hy => by
    obtain ⟨r1, r2⟩ := (hmem y).1 hy
    have hyN := ((hk.mem y).1 hy).1
    obtain ⟨m, hm⟩ := List.getElem?_of_mem (List.mem_of_mem_take hyN)
    have hml := List.getElem?_eq_some_iff.1 hm
    by_cases c : m < i
    · exfalso
      have hyd := h.all m y c hm (r2.trans r1)
      obtain ⟨k', hk', hy'⟩ := (h.dn y).1 hyd
      exact hd ((h.dn n).2 ⟨k', hk', (h.scc k' hk' y hy' n).2 ⟨r2, r1⟩⟩)
    · by_cases e : m = i
      · subst e
        rw [hn] at hm
        injection hm with hm
        omega
      · have := (List.pairwise_iff_getElem.1 hN) i m hil.1 hml.1 (by omega)
        rw [hil.2, hml.2] at this
        omega
  have hhd : k.headD 0 = n := by
    cases hkk : k with
    | nil => rw [hkk] at hnk; cases hnk
    | cons a t =>
      have h1 := hge a (by rw [hkk]; simp)
      rw [hkk] at hnk
      rcases List.mem_cons.1 hnk with e | e
      · exact e.symm
      · have hu := hk.up
        rw [hkk] at hu
        have := (List.pairwise_cons.1 hu).1 n e
        omega
  refine ⟨fun k' hk' => ?_, fun k' hk' => ?_, fun k' hk' x hx y => ?_, fun x => ?_, fun j' x hj' hx hrx => ?_, ?_, fun k' hk' => ?_, ?_, ?_⟩
  · rcases List.mem_append.1 hk' with hk' | hk'
    · exact h.ne k' hk'
    · rw [List.mem_singleton.1 hk']; intro e; rw [e] at hnk; cases hnk
  · rcases List.mem_append.1 hk' with hk' | hk'
    · exact h.up k' hk'
    · rw [List.mem_singleton.1 hk']; exact hk.up
  · rcases List.mem_append.1 hk' with hk' | hk'
    · exact h.scc k' hk' x hx y
    · rw [List.mem_singleton.1 hk'] at hx ⊢
      obtain ⟨a1, a2⟩ := (hmem x).1 hx
      rw [hmem y]
      exact ⟨fun h => ⟨a2.trans h.1, h.2.trans a1⟩, fun h => ⟨a1.trans h.1, h.2.trans a2⟩⟩
  · rw [List.mem_append, h.dn x]
    constructor
    · rintro (⟨k', h1, h2⟩ | h1)
      · exact ⟨k', List.mem_append_left _ h1, h2⟩
      · exact ⟨k, by simp, h1⟩
    · rintro ⟨k', h1, h2⟩
      rcases List.mem_append.1 h1 with h1 | h1
      · exact .inl ⟨k', h1, h2⟩
      · rw [List.mem_singleton.1 h1] at h2; exact .inr h2
  · by_cases e : j' = i
    · subst e
      rw [hn] at hx
      injection hx with hx
      rw [← hx]; exact List.mem_append_right _ hnk
    · exact List.mem_append_left _ (h.all j' x (by omega) hx hrx)
  · refine List.pairwise_append.2 ⟨h.ord, List.pairwise_singleton _ _, fun a ha b hb => ?_⟩
    rw [List.mem_singleton.1 hb, hhd]
    obtain ⟨m, h1, h2⟩ := h.hd a ha
    have hml := List.getElem?_eq_some_iff.1 h2
    have := (List.pairwise_iff_getElem.1 hN) m i hml.1 hil.1 h1
    rw [hml.2, hil.2] at this
    exact this
  · rcases List.mem_append.1 hk' with hk' | hk'
    · obtain ⟨m, h1, h2⟩ := h.hd k' hk'
      exact ⟨m, by omega, h2⟩
    · rw [List.mem_singleton.1 hk', hhd]; exact ⟨i, by omega, hn⟩
  · rw [List.length_append]; have := h.kl; simp; omega
  · rw [List.length_append, Nat.add_mul]; have := h.dl; have := hk.len; omega
theorem Cs.done {l : Kn.El} {N D : List Int} {K : List (List Int)} {i : Nat} (h : Cs l N i D K) (hnd : ∀ x, x ∈ N ↔ Kn.Nd l x) (hi : i = N.length) : Kn.Knots l K := by
  refine ⟨h.ne, h.up, h.scc, fun x hr => ?_, h.ord⟩
  obtain ⟨c, hc, _⟩ := hr.first
  obtain ⟨j, hj⟩ := List.getElem?_of_mem ((hnd x).2 ⟨(x, c), hc, .inl rfl⟩)
  exact (h.dn x).1 (h.all j x (by rw [hi]; exact (List.getElem?_eq_some_iff.1 hj).1) hj hr)

/-- Grown of what is new or of the same row. -/
theorem grTr {ws wr w' : World} {r r' : Option Nat} (h : ws.grownBy wr r) (h2 : wr.grownBy w' r') (hr : r' = r ∨ ∀ g, r' = some g → ws.heap.size ≤ g) : ws.grownBy w' r :=
  ⟨h2.os.trans h.os, h2.tape.trans h.tape, h2.output.trans h.output, Nat.le_trans h.size h2.size, fun i hi hne => (h2.block i (Nat.lt_of_lt_of_le hi h.size) (fun e => by
    rcases hr with hr | hr
    · exact hne (e.trans hr)
    · have := hr i e.symm; omega)).trans (h.block i hi hne)⟩
theorem grBelow {ws wr w' : World} {r : Option Nat} (h : ws.grownBy wr r) (h2 : Below wr.heap.size wr w') : ws.grownBy w' r :=
  ⟨h2.os.trans h.os, h2.tape.trans h.tape, h2.output.trans h.output, Nat.le_trans h.size h2.size, fun i hi hne => (h2.block i (Nat.lt_of_lt_of_le hi h.size)).trans (h.block i hi hne)⟩
/-- The knots in memory. -/
structure Kc (w : World) (base : Nat) (vO vD : Value) (xs : List Value) (K : List (List Int)) (D : List Int) : Prop where
  o : Own w base 28 vO xs
  d : Own w base 3 vD (its D)
  len : xs.length = K.length
  ks : ∀ (i : Nat) (k : List Int) (u : Value), K[i]? = some k → xs[i]? = some u → Own w base 3 u (its k) ∧ ∀ g, u.ownBlock = some g → vO.ownBlock ≠ some g ∧ vD.ownBlock ≠ some g
  od : ∀ g, vO.ownBlock = some g → vD.ownBlock ≠ some g
theorem Kc.start (w : World) (base : Nat) : Kc w base (.slice none 0 0) (.slice none 0 0) [] [] [] := ⟨Own.nil _ _ _, Own.nil _ _ _, rfl, (fun i k u h => by simp at h), (fun g h => nomatch h)⟩
theorem Kc.keep {w w' : World} {base : Nat} {vO vD : Value} {xs : List Value} {K : List (List Int)} {D : List Int} (h : Kc w base vO vD xs K D) (hb : Below w.heap.size w w') : Kc w' base vO vD xs K D :=
  ⟨h.o.below hb, h.d.below hb, h.len, fun i k u h1 h2 => ⟨(h.ks i k u h1 h2).1.below hb, (h.ks i k u h1 h2).2⟩, h.od⟩
/-- One more knot grows. -/
structure Kw (ws wr : World) (base : Nat) (vD0 vD vK : Value) (D k : List Int) : Prop where
  two : Two wr base vD vK (D ++ k) k
  fr : ∀ g, vK.ownBlock = some g → ws.heap.size ≤ g
  gr : ws.grownBy wr vD0.ownBlock
  lo : vD.ownBlock = vD0.ownBlock ∨ ∀ g, vD.ownBlock = some g → ws.heap.size ≤ g
theorem Kw.start {ws : World} {base : Nat} {vO vD : Value} {xs : List Value} {K : List (List Int)} {D : List Int} (h : Kc ws base vO vD xs K D) : Kw ws ws base vD vD (.slice none 0 0) D [] :=
  ⟨⟨by rw [List.append_nil]; exact h.d, Own.nil _ _ _, (fun g _ e => nomatch e)⟩, (fun g e => nomatch e), ⟨rfl, rfl, rfl, Nat.le_refl _, fun _ _ _ => rfl⟩, .inl rfl⟩
theorem Kw.keep {ws wr w' : World} {base : Nat} {vD0 vD vK : Value} {D k : List Int} (h : Kw ws wr base vD0 vD vK D k) (hb : Below wr.heap.size wr w') : Kw ws w' base vD0 vD vK D k :=
  ⟨h.two.keep hb, h.fr, grBelow h.gr hb, h.lo⟩
theorem Kw.add {ws wr w5 w6 : World} {base : Nat} {vD0 vD vK v5 v6 : Value} {D k : List Int} {y : Int} (h : Kw ws wr base vD0 vD vK D k)
    (g5 : wr.grownBy w5 vK.ownBlock) (l5 : v5.ownBlock = vK.ownBlock ∨ ∀ g, v5.ownBlock = some g → wr.heap.size ≤ g) (ht5 : Two w5 base vD v5 (D ++ k) (k ++ [y]))
    (g6 : w5.grownBy w6 vD.ownBlock) (o6 : Own w6 base 3 v6 (its (D ++ k) ++ [.int .i64 y])) (l6 : v6.ownBlock = vD.ownBlock ∨ ∀ g, v6.ownBlock = some g → w5.heap.size ≤ g) : Kw ws w6 base vD0 v6 v5 D (k ++ [y]) := by
  have hg5 := grTr h.gr g5 (.inr (fun g hg => h.fr g hg))
  refine ⟨ht5.putA g6 (by rw [← List.append_assoc, its_app]; exact o6) l6, fun g hg => ?_, grTr hg5 g6 h.lo, ?_⟩
  · rcases l5 with l5 | l5
    · exact h.fr g (by rw [← l5]; exact hg)
    · exact Nat.le_trans h.gr.size (l5 g hg)
  · rcases l6 with l6 | l6
    · rcases h.lo with h2 | h2
      · exact .inl (l6.trans h2)
      · exact .inr (fun g hg => h2 g (by rw [← l6]; exact hg))
    · exact .inr (fun g hg => Nat.le_trans hg5.size (l6 g hg))
theorem Kc.add {ws wr w7 : World} {base : Nat} {vO vD0 vD vK v7 : Value} {xs : List Value} {K : List (List Int)} {D k : List Int} (h : Kc ws base vO vD0 xs K D) (hw : Kw ws wr base vD0 vD vK D k)
    (g7 : wr.grownBy w7 vO.ownBlock) (o7 : Own w7 base 28 v7 (xs ++ [vK])) (l7 : v7.ownBlock = vO.ownBlock ∨ ∀ g, v7.ownBlock = some g → wr.heap.size ≤ g) : Kc w7 base v7 vD (xs ++ [vK]) (K ++ [k]) (D ++ k) := by
  have hOD : ∀ g, vO.ownBlock = some g → vD.ownBlock ≠ some g := fun g h1 h2 => by
    rcases hw.lo with l | l
    · exact h.od g h1 (by rw [← l]; exact h2)
    · have := l g h2; have := (h.o.lt h1).1; omega
  have h7lt : ∀ g, g < ws.heap.size → vO.ownBlock ≠ some g → v7.ownBlock ≠ some g := fun g hg h1 h2 => by
    rcases l7 with l | l
    · exact h1 (by rw [← l]; exact h2)
    · have := l g h2; have := hw.gr.size; omega
  refine ⟨o7, hw.two.a.keep (fun g hg => g7.block g (hw.two.a.lt hg).1 (fun e => hOD g e.symm hg)), by simp [h.len], fun i k' u hk hu => ?_, fun g h1 h2 => ?_⟩
  · by_cases c : i < K.length
    · rw [List.getElem?_append_left c] at hk
      rw [List.getElem?_append_left (by rw [h.len]; exact c)] at hu
      obtain ⟨a1, a2⟩ := h.ks i k' u hk hu
      refine ⟨(a1.keep (fun g hg => hw.gr.block g (a1.lt hg).1 (fun e => (a2 g hg).2 e.symm))).keep (fun g hg => g7.block g (Nat.lt_of_lt_of_le (a1.lt hg).1 hw.gr.size) (fun e => (a2 g hg).1 e.symm)), fun g hg => ⟨h7lt g (a1.lt hg).1 (a2 g hg).1, fun h2 => ?_⟩⟩
      rcases hw.lo with l | l
      · exact (a2 g hg).2 (by rw [← l]; exact h2)
      · have := l g h2; have := (a1.lt hg).1; omega
    · have hil := (List.getElem?_eq_some_iff.1 hk).1
      rw [List.length_append, List.length_singleton] at hil
      obtain rfl : i = K.length := by omega
      rw [List.getElem?_append_right (Nat.le_refl _), Nat.sub_self] at hk
      rw [List.getElem?_append_right (by rw [h.len]; exact Nat.le_refl _), h.len, Nat.sub_self] at hu
      simp at hk hu
      subst hk
      subst hu
      have hb := hw.two.b
      refine ⟨hb.keep (fun g hg => g7.block g (hb.lt hg).1 (fun e => by have := hw.fr g hg; have := (h.o.lt e.symm).1; omega)), fun g hg => ⟨fun h2 => ?_, fun h2 => hw.two.ne g h2 hg⟩⟩
      rcases l7 with l | l
      · have := hw.fr g hg; have := (h.o.lt (g := g) (by rw [← l]; exact h2)).1; omega
      · have := l g h2; have := (hb.lt hg).1; omega
  · rcases l7 with l | l
    · exact hOD g (by rw [← l]; exact h1) h2
    · have := l g h1; have := (hw.two.a.lt h2).1; omega
theorem Kc.kin {w : World} {base : Nat} {vO vD : Value} {xs : List Value} {K : List (List Int)} {D : List Int} (h : Kc w base vO vD xs K D) (hne : ∀ k ∈ K, k ≠ []) : ∃ q c, vO = .slice q K.length c ∧ KIn w q K := by
  obtain ⟨q, c, h1, h2, _, h4, h5⟩ := h.o.shape
  rw [h.len] at h1 h2
  refine ⟨q, c, h1, fun i k hk => ?_⟩
  have hi := (List.getElem?_eq_some_iff.1 hk).1
  have hu : xs[i]? = some (xs[i]'(by rw [h.len]; exact hi)) := List.getElem?_eq_getElem _
  obtain ⟨g, c', e1, _, e3, _, _⟩ := h.o.at hu
  rw [h1] at e1
  injection e1 with e1
  have hlo := (h.o.lt (g := g) (by rw [h1, e1]; rfl)).1
  obtain ⟨o1, _⟩ := h.ks i k _ hk hu
  have hkn : its k ≠ [] := fun e => hne k (List.mem_of_getElem? hk) (List.length_eq_zero_iff.1 (by rw [← its_len, e]; rfl))
  obtain ⟨g2, n2, c2, f1, f2, f3⟩ := o1.nonnil hkn
  rw [its_len] at f2
  subst f2
  rw [f1] at e3 o1
  refine ⟨g, 0, g2, c2, e1, hlo, by rw [Nat.zero_add]; exact e3, f3, (o1.lt (g := g2) rfl).1, fun j x hx => (o1.cell (its_at hx)).1⟩
end Mm

set_option maxHeartbeats 1000000 in
theorem has_yes (w : World) (q : Option Addr) (c n : Nat) (l : List Int) (x : Int) (hl : Hid (Mm.IIn w q l)) (hn : Hid (n = l.length)) (hn1 : n < 100000) (hx : x ∈ l) :
    Calls Try.prog 24 #[.slice q n c, .int .i64 x] w fun e w' => e = .returned (.bool true) ∧ w' = w := by
  have := has_any w q c n l x hl hn hn1
  rwa [List.contains_iff_mem.2 hx] at this
theorem has_no (w : World) (q : Option Addr) (c n : Nat) (l : List Int) (x : Int) (hl : Hid (Mm.IIn w q l)) (hn : Hid (n = l.length)) (hn1 : n < 100000) (hx : x ∉ l) :
    Calls Try.prog 24 #[.slice q n c, .int .i64 x] w fun e w' => e = .returned (.bool false) ∧ w' = w := by
  have := has_any w q c n l x hl hn hn1
  rwa [show l.contains x = false from by rw [Bool.eq_false_iff]; exact fun h => hx (List.contains_iff_mem.1 h)] at this
end Go.Proofs.Ythikdfcndppoaaa
