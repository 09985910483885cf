/- append of texts that lie anywhere, and of one leaf, as steps of a region that draws. -/
import Derived.Test.YtjnaafgiokdcbaaGreatDoorGJ
set_option maxRecDepth 100000
namespace Go.Proofs.YtjnaafgiokdcbaaGreatDoor
open Go.RowKit
namespace Lf
set_option maxRecDepth 100000 in
theorem strInfo : ∃ i, Tryz.prog.info? 9 = some i ∧ i.zero = some (.string ⟨#[]⟩) ∧ i.size = 1 ∧ i.bytes = 16 := ⟨_, Tryz.type9, rfl, rfl, rfl⟩
theorem sin_len {w : World} {q : Option Addr} {C : List ByteArray} (h : SIn w q C) (hq : q = none) : C = [] := by
  cases C with
  | nil => rfl
  | cons y r =>
    obtain ⟨b, o, e, _⟩ := h 0 y rfl
    rw [hq] at e
    cases e
theorem stepT {ops : Array Oper} {o : Oper} {a : Act} {w : World} {K : Act → World → Prop} {Q : Exit → Act → World → Prop} {E : Prop} (hgd : o.guard = none) (s x : Operand) (ho : o.op = .call { callee := .builtin .append, args := #[s, x], argTypes := #[89, 89] }) (base : Nat) (v : Value) (X : List ByteArray) (hs : a.eval s = v) (hown : Mm.Own w base 9 v (strs X)) (q : Option Addr) (m c : Nat) (C : List ByteArray) (hx : a.eval x = .slice q m c) (hC : C.length = m) (hI : SIn w q C) (hq : q = none → c = 0) (hm : m ≤ 100000) (hX : X.length ≤ 100000) (hbase : base ≤ w.heap.size)
    (h : ∀ v' w', Mm.Own w' base 9 v' (strs (X ++ C)) → w.grownBy w' v.ownBlock → (v'.ownBlock = v.ownBlock ∨ ∀ g, v'.ownBlock = some g → w.heap.size ≤ g) → K (a.put o.dst v') w') : if Region.wanted o (yielded ops a.tmps) = true then Oper.wp Tryz.prog o a w K Q else E := by
  have hw : Region.wanted o (yielded ops a.tmps) = true := by simp [Region.wanted, hgd]
  rw [if_pos hw]
  obtain ⟨i, h1, h2, h3, h4⟩ := strInfo
  have es : strs (X ++ C) = strs X ++ strs C := by simp [strs]
  cases q with
  | none =>
    have hm0 := sin_len hI rfl
    subst hm0
    have hm1 : m = 0 := hC.symm
    subst hm1
    have hc0 := hq rfl
    subst hc0
    have hrun := run_append_owned_none (P := Tryz.prog) (w := w) base 89 o.type 9 i 1 Tryz.underlying89 h1 v _ _ hown
    unfold Oper.wp execOp
    simp only [ho, resolve, invoke, builtin, Sem.run_bind, Sem.run_pure, Result.andThen_ok, List.map_toArray, List.map_cons, List.map_nil, hs, hx, hrun]
    exact h v w (by rw [List.append_nil]; exact hown) ⟨rfl, rfl, rfl, Nat.le_refl _, fun _ _ _ => rfl⟩ (Or.inl rfl)
  | some ad =>
    obtain ⟨v', w', hr, r2, r3, _, r5⟩ := run_append_own_at (P := Tryz.prog) w base 89 o.type 9 i _ 1 16 Tryz.underlying89 h1 h2 h3 h4 rfl (by decide) v _ (strs X) hown ad m c (strs C) (by rw [strs_len, Nat.mul_one]; exact hC) (fun j u hj => by
      unfold strs at hj
      rw [List.getElem?_map] at hj
      cases hy : C[j]? with
      | none => rw [hy] at hj; cases hj
      | some y =>
        rw [hy] at hj
        cases hj
        obtain ⟨b, o, e, _, e3⟩ := hI j y hy
        injection e with e
        rw [e, Mm.addPlain]
        exact e3) (strs_one _) (by unfold maxLen; rw [strs_len]; omega) (by rw [strs_len]; omega) hbase
    unfold Oper.wp execOp
    simp only [ho, resolve, invoke, builtin, Sem.run_bind, Sem.run_pure, Result.andThen_ok, List.map_toArray, List.map_cons, List.map_nil, hs, hx, hr]
    refine h v' w' ?_ r3 ?_
    · unfold Mm.Own
      rw [es, List.length_append, strs_len C, hC]
      exact r2
    · rcases r5 with r5 | r5
      · exact Or.inl r5
      · exact Or.inr (fun g hg => by rw [r5] at hg; injection hg with hg; omega)
/-- append of one text that was laid just now. -/
theorem step1T {ops : Array Oper} {o : Oper} {a : Act} {w : World} {K : Act → World → Prop} {Q : Exit → Act → World → Prop} {E : Prop} (hgd : o.guard = none) (s x : Operand) (ho : o.op = .call { callee := .builtin .append, args := #[s, x], argTypes := #[89, 89] }) (base : Nat) (v : Value) (X : List ByteArray) (k : ByteArray) (hs : a.eval s = v) (hown : Mm.Own w base 9 v (strs X)) (B : Nat) (hx : a.eval x = .slice (some ⟨B, 0, none⟩) 1 1) (hc : w.cell? ⟨B, 0, none⟩ = some (.string k)) (hX : X.length ≤ 100000) (hbase : base ≤ w.heap.size)
    (h : ∀ v' w', Mm.Own w' base 9 v' (strs (X ++ [k])) → w.grownBy w' v.ownBlock → (v'.ownBlock = v.ownBlock ∨ ∀ g, v'.ownBlock = some g → w.heap.size ≤ g) → K (a.put o.dst v') w') : if Region.wanted o (yielded ops a.tmps) = true then Oper.wp Tryz.prog o a w K Q else E := by
  obtain ⟨i, h1, h2, h3, h4⟩ := strInfo
  have es : strs (X ++ [k]) = strs X ++ [.string k] := by simp [strs]
  exact Mm.step1 hgd s x 89 9 i _ 16 Tryz.underlying89 h1 h2 h3 h4 rfl (by decide) ho base v _ (strs X) hs hown rfl B hx hc (by rw [strs_len]; omega) hbase (fun v' w' h1 h2 h3 => h v' w' (by rw [es]; exact h1) h2 h3)
/-- append of one leaf. -/
theorem stepL {ops : Array Oper} {o : Oper} {a : Act} {w : World} {K : Act → World → Prop} {Q : Exit → Act → World → Prop} {E : Prop} (hgd : o.guard = none) (s x : Operand)
    (ho : o.op = .call { callee := .builtin .append, args := #[s, x], argTypes := #[86, 86] }) (base : Nat) (v : Value) (n : Nat) (xs : List Value) (kf : Nat → Value) (P : Pg) (hkf : ∃ q m c, kf P.n = .slice q m c) (hs : a.eval s = v) (hown : w.ownsRow base 91 4 v n xs) (B : Nat) (hx : a.eval x = .slice (some ⟨B, 0, none⟩) 1 1) (hc : ∀ (j : Nat) (u : Value), (leafC kf P)[j]? = some u → w.cell? ⟨B, j, none⟩ = some u) (hlen : n < 1000000) (hbase : base ≤ w.heap.size)
    (h : ∀ v' w', w'.ownsRow base 91 4 v' (n + 1) (xs ++ leafC kf P) → w.grownBy w' v.ownBlock → (v'.ownBlock = v.ownBlock ∨ ∀ g, v'.ownBlock = some g → w.heap.size ≤ g) → K (a.put o.dst v') w') : if Region.wanted o (yielded ops a.tmps) = true then Oper.wp Tryz.prog o a w K Q else E := by
  have hw : Region.wanted o (yielded ops a.tmps) = true := by simp [Region.wanted, hgd]
  rw [if_pos hw]
  obtain ⟨i, h1, h2, h3, h4⟩ := leafInfo
  obtain ⟨v', w', hr, r2, r3, _, r5⟩ := run_append_own_at (P := Tryz.prog) w base 86 o.type 91 i _ 4 56 Tryz.underlying86 h1 h2 h3 h4 rfl (by decide) v n xs hown ⟨B, 0, none⟩ 1 1 (leafC kf P) rfl (fun j u hj => by rw [Mm.addPlain, Nat.zero_add]; exact hc j u hj) (leaf_one kf P hkf) (by unfold maxLen; omega) (by omega) hbase
  unfold Oper.wp execOp
  simp only [ho, resolve, invoke, builtin, Sem.run_bind, Sem.run_pure, Result.andThen_ok, List.map_toArray, List.map_cons, List.map_nil, hs, hx, hr]
  refine h v' w' r2 r3 ?_
  rcases r5 with r5 | r5
  · exact Or.inl r5
  · exact Or.inr (fun g hg => by rw [r5] at hg; injection hg with hg; omega)
end Lf

end Go.Proofs.YtjnaafgiokdcbaaGreatDoor

/- What a change of the reference leaves. -/
namespace Go.Proofs.YtjnaafgiokdcbaaGreatDoor
open Go.RowKit
namespace Lf
def Out (w : World) (base p r : Nat) (kf : Nat → Value) (s : S) (w' : World) (s' : S) : Prop := ∃ r' c' kf', Rm w' base p r' c' kf' s' ∧ Tc p r w w' ∧ ∀ b, Rb p r' kf' s' b → Rb p r kf s b ∨ w.heap.size ≤ b
theorem Rb.lt {w : World} {base p r c : Nat} {kf : Nat → Value} {s : S} (H : Rm w base p r c kf s) {b : Nat} (h : Rb p r kf s b) : b < w.heap.size := by
  rcases h with h | h | ⟨P, hP, h⟩
  · rw [h]; exact Mm.heapLt H.head
  · rw [h]; exact H.row.1
  · exact ((H.ks P hP).1.lt h).1
theorem set4 {w : World} {B : Nat} {x0 x1 x2 x3 y0 y1 y2 y3 : Value} {t : TypeId} (h : w.heap[B]? = some (.cells #[x0, x1, x2, x3] t (0, 0))) : ((((w.setCell ⟨B, 0, none⟩ y0).setCell ⟨B, 1, none⟩ y1).setCell ⟨B, 2, none⟩ y2).setCell ⟨B, 3, none⟩ y3).heap[B]? = some (.cells #[y0, y1, y2, y3] t (0, 0)) := by
  have h1 := heap_setCell_same w B 0 _ t y0 h
  have h2 := heap_setCell_same _ B 1 _ t y1 h1
  have h3 := heap_setCell_same _ B 2 _ t y2 h2
  exact heap_setCell_same _ B 3 _ t y3 h3
theorem Out.fin {w w8 : World} {base p r c r' c' : Nat} {kf kf' : Nat → Value} {s s' : S} (H : Rm w base p r c kf s) (HR : Rm w8 base p r' c' kf' s') (HT : Tc p r w w8) (hb : ∀ b, Rb p r' kf' s' b → Rb p r kf s b ∨ w.heap.size < b) (y0 y1 y2 y3 : Value) :
    Out w base p r kf s ((((w8.setCell ⟨w.heap.size, 0, none⟩ y0).setCell ⟨w.heap.size, 1, none⟩ y1).setCell ⟨w.heap.size, 2, none⟩ y2).setCell ⟨w.heap.size, 3, none⟩ y3) s' := by
  refine ⟨r', c', kf', HR.keep (fun b _ h => ?_), (((HT.set (Or.inr (Or.inr (Nat.le_refl _))) _ _).set (Or.inr (Or.inr (Nat.le_refl _))) _ _).set (Or.inr (Or.inr (Nat.le_refl _))) _ _).set (Or.inr (Or.inr (Nat.le_refl _))) _ _, fun b h => (hb b h).imp id Nat.le_of_lt⟩
  have hne : b ≠ w.heap.size := by
    rcases hb b h with h1 | h1
    · exact Nat.ne_of_lt (h1.lt H)
    · exact Nat.ne_of_gt h1
  exact (heap_setCell_other _ _ _ _ hne).trans ((heap_setCell_other _ _ _ _ hne).trans ((heap_setCell_other _ _ _ _ hne).trans (heap_setCell_other _ _ _ _ hne)))
theorem fresh9 {w wx : World} {b d : Nat} {o : Obj} {t : TypeId} {v : Value} {cs : List Value} (h1 : wx.heap[d]? = some o) (h2 : Mm.Own wx b t v cs) (h3 : b ≤ d) (h4 : Below b w wx) : wx.heap[d]? = some o ∧ Mm.Own wx b t v cs ∧ Below b w wx ∧ b ≤ d := ⟨h1, h2, h4, h3⟩
theorem half_num {hh n : Nat} (h : hh = (n + 1) / 2) (hn : n ≤ 65) : wrap64 ((wrap64 ((n : Int) + 1)).tdiv 2) = (hh : Int) := by
  have e : wrap64 ((n : Int) + 1) = (n : Int) + 1 := by unfold wrap64; omega
  rw [e, Int.tdiv_eq_ediv_of_nonneg (by omega)]
  unfold wrap64
  omega
theorem next_num {n : Nat} (h : n ≤ 100000) : wrap64 ((n : Int) + 1 + 1) = ((n + 1 : Nat) : Int) + 1 := by
  unfold wrap64
  omega
end Lf

end Go.Proofs.YtjnaafgiokdcbaaGreatDoor

/- Helpers for what makes the reference's row anew. -/
namespace Go.Proofs.YtjnaafgiokdcbaaGreatDoor
open Go.RowKit
namespace Lf
theorem unfroz {w : World} {b i : Nat} {cs : Array Value} {t : TypeId} (h : w.heap[b]? = some (.cells cs t (0, 0))) : w.frozen? ⟨b, i, none⟩ = false := by simp [World.frozen?, h]
/-- Nothing but one block turns, nothing is made. -/
structure Bs (b : Nat) (w w' : World) : Prop where
  os : w'.os = w.os
  tape : w'.tape = w.tape
  output : w'.output = w.output
  size : w'.heap.size = w.heap.size
  block : ∀ g, g ≠ b → w'.heap[g]? = w.heap[g]?
theorem Bs.refl (b : Nat) (w : World) : Bs b w w := ⟨rfl, rfl, rfl, rfl, fun _ _ => rfl⟩
theorem Bs.set {b : Nat} {w w' : World} (h : Bs b w w') (i : Nat) (u : Value) : Bs b w (w'.setCell ⟨b, i, none⟩ u) := ⟨h.os, h.tape, h.output, by simpa using h.size, fun g hg => (heap_setCell_other w' _ g _ (by simpa using hg)).trans (h.block g hg)⟩
theorem Bs.drew {b : Nat} {w w' : World} (h : Bs b w w') : Bs b w w'.drew := ⟨h.os, h.tape, h.output, h.size, h.block⟩
theorem Bs.trans {b : Nat} {w w1 w2 : World} (h : Bs b w w1) (k : Bs b w1 w2) : Bs b w w2 := ⟨k.os.trans h.os, k.tape.trans h.tape, k.output.trans h.output, k.size.trans h.size, fun g hg => (k.block g hg).trans (h.block g hg)⟩
theorem Tc.bs {p r b : Nat} {w w1 w2 : World} (h : Tc p r w w1) (k : Bs b w1 w2) (hb : b = p ∨ b = r ∨ w.heap.size ≤ b) : Tc p r w w2 :=
  ⟨k.os.trans h.os, k.tape.trans h.tape, k.output.trans h.output, by rw [k.size]; exact h.size, fun g hg h1 h2 => (k.block g (by rcases hb with e | e | e <;> omega)).trans (h.block g hg h1 h2)⟩
theorem Tc.bel2 {p r : Nat} {w w1 w2 : World} (h : Tc p r w w1) (k : Below w1.heap.size w1 w2) : Tc p r w w2 := ⟨k.os.trans h.os, k.tape.trans h.tape, k.output.trans h.output, Nat.le_trans h.size k.size, fun g hg h1 h2 => (k.block g (Nat.lt_of_lt_of_le hg h.size)).trans (h.block g hg h1 h2)⟩
theorem rowKeep {w w' : World} {base n size : Nat} {e : TypeId} {v : Value} {cs : List Value} (h : w.ownsRow base e size v n cs) (hk : ∀ g, v.ownBlock = some g → w'.heap[g]? = w.heap[g]?) : w'.ownsRow base e size v n cs := by
  obtain ⟨h0, h1 | ⟨g, cap, cur, e1, e2, e3, e4⟩⟩ := h
  · exact ⟨h0, Or.inl h1⟩
  · exact ⟨h0, Or.inr ⟨g, cap, cur, e1, e2, (hk g (by rw [e1]; rfl)).trans e3, e4⟩⟩
theorem rowLt {w : World} {base n size : Nat} {e : TypeId} {v : Value} {cs : List Value} (h : w.ownsRow base e size v n cs) {g : Nat} (hg : v.ownBlock = some g) : base ≤ g ∧ g < w.heap.size := by
  obtain ⟨_, ⟨h1, _⟩ | ⟨g', cap, cur, h1, h2, h3, _⟩⟩ := h
  · subst h1; cases hg
  · subst h1; cases hg; exact ⟨h2, Mm.heapLt h3⟩
theorem rowBelow {w w' : World} {base n size : Nat} {e : TypeId} {v : Value} {cs : List Value} (h : w.ownsRow base e size v n cs) (hb : Below w.heap.size w w') : w'.ownsRow base e size v n cs := rowKeep h (fun _ hg => hb.block _ (rowLt h hg).2)
theorem rowBase {w : World} {b b' n size : Nat} {e : TypeId} {v : Value} {cs : List Value} (h : w.ownsRow b e size v n cs) (hb : b' ≤ b) : w.ownsRow b' e size v n cs := by
  obtain ⟨h0, h1 | ⟨g, cap, cur, e1, e2, e3⟩⟩ := h
  · exact ⟨h0, Or.inl h1⟩
  · exact ⟨h0, Or.inr ⟨g, cap, cur, e1, Nat.le_trans hb e2, e3⟩⟩
/-- Rows of different kinds lie apart. -/
theorem rowNe {w : World} {b1 b2 n1 n2 s1 s2 : Nat} {e1 e2 : TypeId} {v1 v2 : Value} {x1 x2 : List Value} (h1 : w.ownsRow b1 e1 s1 v1 n1 x1) (h2 : w.ownsRow b2 e2 s2 v2 n2 x2) (he : e1 ≠ e2) {g : Nat} (hg : v1.ownBlock = some g) : v2.ownBlock ≠ some g := fun hg2 => by
  obtain ⟨_, ⟨k1, _⟩ | ⟨g1, c1, cur1, k1, _, k3, _⟩⟩ := h1
  · subst k1; cases hg
  · subst k1; cases hg
    obtain ⟨_, ⟨m1, _⟩ | ⟨g2, c2, cur2, m1, _, m3, _⟩⟩ := h2
    · subst m1; cases hg2
    · subst m1; cases hg2
      rw [k3] at m3
      injection m3 with m3
      injection m3 with _ m3 _
      exact he m3
theorem rowNeBox {w : World} {b1 n1 s1 : Nat} {e1 t : TypeId} {v1 : Value} {x1 : List Value} (h1 : w.ownsRow b1 e1 s1 v1 n1 x1) {b : Nat} {cs : Array Value} (h2 : w.heap[b]? = some (.cells cs t (0, 0))) (he : e1 ≠ t) {g : Nat} (hg : v1.ownBlock = some g) : g ≠ b := fun e => by
  subst e
  obtain ⟨_, ⟨k1, _⟩ | ⟨g1, c1, cur1, k1, _, k3, _⟩⟩ := h1
  · subst k1; cases hg
  · subst k1; cases hg
    rw [k3] at h2
    injection h2 with h2
    injection h2 with _ h2 _
    exact he h2
theorem rowShape {w : World} {base n size : Nat} {e : TypeId} {v : Value} {cs : List Value} (h : w.ownsRow base e size v n cs) (hn : n ≠ 0) : ∃ g c, v = .slice (some ⟨g, 0, none⟩) n c := by
  obtain ⟨_, ⟨_, h2⟩ | ⟨g, cap, _, h1, _⟩⟩ := h
  · exact absurd h2 hn
  · exact ⟨g, cap, h1⟩
/-- append of texts that lie anywhere. -/
theorem appTs {ops : Array Oper} {rest : List Oper} {o : Oper} {a : Act} {Q : Exit → Act → World → Prop} {w : World} (hgd : o.guard = none) (s x : Operand) (ho : o.op = .call { callee := .builtin .append, args := #[s, x], argTypes := #[89, 89] }) (base : Nat) (v : Value) (X : List ByteArray) (hs : a.eval s = v) (hown : Mm.Own w base 9 v (strs X)) (ad : Addr) (m c : Nat) (C : List ByteArray) (hx : a.eval x = .slice (some ad) m c) (hC : C.length = m) (hI : SIn w (some ad) C) (hm : m ≤ 100000) (hX : X.length ≤ 100000) (hbase : base ≤ w.heap.size)
    (h : ∀ v' w', Mm.Own w' base 9 v' (strs (X ++ C)) → w.grownBy w' v.ownBlock → (v'.ownBlock = v.ownBlock ∨ ∀ g, v'.ownBlock = some g → w.heap.size ≤ g) → wpList Tryz.prog ops Q rest (a.put o.dst v') w') : wpList Tryz.prog ops Q (o :: rest) a w := by
  obtain ⟨i, h1, h2, h3, h4⟩ := strInfo
  have es : strs (X ++ C) = strs X ++ strs C := by simp [strs]
  refine wpList_append_own_at _ hgd s x 89 ho base 9 i _ 1 16 Tryz.underlying89 h1 h2 h3 h4 rfl (by decide) v _ (strs X) hs hown ad m c (strs C) hx (by rw [strs_len, Nat.mul_one]; exact hC) (fun j u hj => by
      unfold strs at hj
      rw [List.getElem?_map] at hj
      cases hy : C[j]? with
      | none => rw [hy] at hj; cases hj
      | some y =>
        rw [hy] at hj
        cases hj
        obtain ⟨b, o, e, _, e3⟩ := hI j y hy
        injection e with e
        rw [e, Mm.addPlain]
        exact e3) (strs_one _) (by unfold maxLen; rw [strs_len]; omega) (by rw [strs_len]; omega) hbase (fun v' w' r2 r3 _ r5 => h v' w' ?_ r3 ?_)
  · unfold Mm.Own
    rw [es, List.length_append, strs_len C, hC]
    exact r2
  · rcases r5 with r5 | r5
    · exact Or.inl r5
    · exact Or.inr (fun g hg => by rw [r5] at hg; injection hg with hg; omega)
/-- The new row, so far. -/
def TlI (L R : List Pg) (P1 X : Pg) (i : Nat) : List Pg := if i ≤ L.length then L.take i else L ++ P1 :: X :: R.take (i - L.length - 1)
theorem tlI_0 (L R : List Pg) (P1 X : Pg) : TlI L R P1 X 0 = [] := by unfold TlI; rw [if_pos (Nat.zero_le _)]; rfl
theorem tlI_lt {L R : List Pg} {P1 X Q : Pg} {i : Nat} (hQ : L[i]? = some Q) : TlI L R P1 X (i + 1) = TlI L R P1 X i ++ [Q] := by
  have h := (List.getElem?_eq_some_iff.1 hQ).1
  unfold TlI
  rw [if_pos (by omega), if_pos (by omega), List.take_add_one, hQ]
  rfl
theorem tlI_at (L R : List Pg) (P1 X : Pg) : TlI L R P1 X L.length = L ∧ TlI L R P1 X (L.length + 1) = L ++ [P1] ++ [X] := by
  unfold TlI
  rw [if_pos (Nat.le_refl _), if_neg (by omega), List.take_length, show L.length + 1 - L.length - 1 = 0 by omega]
  exact ⟨rfl, by simp⟩
theorem tlI_gt {L R : List Pg} {P1 X Q : Pg} {i : Nat} (h : L.length < i) (hQ : R[i - L.length - 1]? = some Q) : TlI L R P1 X (i + 1) = TlI L R P1 X i ++ [Q] := by
  unfold TlI
  rw [if_neg (by omega), if_neg (by omega), show i + 1 - L.length - 1 = (i - L.length - 1) + 1 by omega, List.take_add_one, hQ]
  simp
theorem tlI_end {L R : List Pg} {P1 X : Pg} {i : Nat} (h : i = L.length + 1 + R.length) : TlI L R P1 X i = L ++ P1 :: X :: R := by
  unfold TlI
  rw [if_neg (by omega), List.take_of_length_le (by omega)]
theorem tlI_len (L R : List Pg) (P1 X : Pg) (i : Nat) : (TlI L R P1 X i).length ≤ i + 1 := by
  unfold TlI
  split
  · rw [List.length_take]; omega
  · rw [List.length_append, List.length_cons, List.length_cons, List.length_take]; omega
def kfI (kf : Nat → Value) (n1 n2 : Nat) (v1 v2 : Value) : Nat → Value := upd (upd kf n1 v1) n2 v2
theorem kfI_o {kf : Nat → Value} {n1 n2 : Nat} {v1 v2 : Value} {m : Nat} (h1 : m ≠ n1) (h2 : m ≠ n2) : kfI kf n1 n2 v1 v2 m = kf m := by unfold kfI; rw [upd_other _ _ h2, upd_other _ _ h1]
theorem kfI_1 {kf : Nat → Value} {n1 n2 : Nat} {v1 v2 : Value} (h : n1 ≠ n2) : kfI kf n1 n2 v1 v2 n1 = v1 := by unfold kfI; rw [upd_other _ _ h, upd_same]
theorem kfI_2 {kf : Nat → Value} {n1 n2 : Nat} {v1 v2 : Value} : kfI kf n1 n2 v1 v2 n2 = v2 := by unfold kfI; rw [upd_same]
/-- The loop that makes the row anew. -/
structure RwI (w0 wr : World) (kf : Nat → Value) (L R : List Pg) (P1 X : Pg) (vk : Value) (i : Nat) (vo v1 : Value) : Prop where
  own : wr.ownsRow w0.heap.size 91 4 vo (TlI L R P1 X i).length (cellsL (kfI kf P1.n X.n v1 vk) (TlI L R P1 X i))
  k1 : L.length < i → Mm.Own wr w0.heap.size 9 v1 (strs P1.ks)
  bel : Below w0.heap.size w0 wr
theorem cellsL_one (kf : Nat → Value) (a : List Pg) (Q : Pg) : cellsL kf (a ++ [Q]) = cellsL kf a ++ leafC kf Q := by
  rw [cellsL_app]
  congr 1
theorem made0 (w : World) {base B : Nat} (hb : base ≤ w.heap.size) (hB : B = w.heap.size) : Mm.Own (w.alloc (.cells #[] 9)) base 9 (.slice (some ⟨B, 0, none⟩) 0 0) (strs []) := by
  subst hB
  exact World.ownsRow_made w #[] 0 hb (Nat.zero_le _) rfl
theorem leaf_new (w : World) {x0 x1 x2 x3 : Value} {t : TypeId} {B : Nat} (hB : B = w.heap.size) : ∀ (j : Nat) (u : Value), [x0, x1, x2, x3][j]? = some u → (w.alloc (.cells #[x0, x1, x2, x3] t)).cell? ⟨B, j, none⟩ = some u := fun j u h => by
  refine Mm.cellOf (Mm.newAt w _ hB) ?_
  match j, h with
  | 0, h => exact h
  | 1, h => exact h
  | 2, h => exact h
  | 3, h => exact h
  | j + 4, h => simp at h
theorem rowSl {w : World} {base n size : Nat} {e : TypeId} {v : Value} {cs : List Value} (h : w.ownsRow base e size v n cs) : ∃ q c, v = .slice q n c := by
  obtain ⟨_, ⟨h1, h2⟩ | ⟨g, cap, _, h1, _⟩⟩ := h
  · exact ⟨none, 0, by rw [h1, h2]⟩
  · exact ⟨_, cap, h1⟩
theorem RwI.add {w0 wr wA w' : World} {kf : Nat → Value} {L R : List Pg} {P1 X : Pg} {vk : Value} {i : Nat} {vo v1 v' : Value} (H : RwI w0 wr kf L R P1 X vk i vo v1) {Q : Pg} (hT : TlI L R P1 X (i + 1) = TlI L R P1 X i ++ [Q]) (hi : i ≠ L.length) (hA : Below wr.heap.size wr wA)
    (ho : w'.ownsRow w0.heap.size 91 4 v' ((TlI L R P1 X i).length + 1) (cellsL (kfI kf P1.n X.n v1 vk) (TlI L R P1 X i) ++ leafC (kfI kf P1.n X.n v1 vk) Q)) (hg : wA.grownBy w' vo.ownBlock) : RwI w0 w' kf L R P1 X vk (i + 1) v' v1 := by
  have hb : Below w0.heap.size w0 wA := H.bel.trans (hA.mono H.bel.size)
  refine ⟨?_, fun h => ?_, hb.grown hg hb.size (fun g hg2 => (rowLt H.own hg2).1)⟩
  · rw [hT, List.length_append, cellsL_one]
    exact ho
  · have h1 := H.k1 (by omega)
    refine h1.keep (fun g hg2 => (hg.block g (Nat.lt_of_lt_of_le (h1.lt hg2).1 hA.size) (fun e => ?_)).trans (hA.block g (h1.lt hg2).1))
    exact rowNe h1 H.own (by decide) hg2 e.symm
theorem cells_mid {kf : Nat → Value} {L R : List Pg} {P1 X : Pg} {v1 v3 vk : Value} (hne : ∀ Q, Q ∈ L ∨ Q ∈ R → Q.n ≠ P1.n ∧ Q.n ≠ X.n) : cellsL (kfI kf P1.n X.n v1 vk) (TlI L R P1 X L.length) = cellsL (kfI kf P1.n X.n v3 vk) L := by
  rw [(tlI_at L R P1 X).1]
  exact cellsL_congr (fun Q hQ => by rw [kfI_o (hne Q (Or.inl hQ)).1 (hne Q (Or.inl hQ)).2, kfI_o (hne Q (Or.inl hQ)).1 (hne Q (Or.inl hQ)).2])
/-- The round that parts a leaf. -/
theorem RwI.mid {w0 w' : World} {kf : Nat → Value} {L R : List Pg} {P1 X : Pg} {vk v3 vo : Value} (hb : Below w0.heap.size w0 w') (ho : w'.ownsRow w0.heap.size 91 4 vo (L.length + 1 + 1) (cellsL (kfI kf P1.n X.n v3 vk) L ++ leafC (kfI kf P1.n X.n v3 vk) P1 ++ leafC (kfI kf P1.n X.n v3 vk) X)) (h3 : Mm.Own w' w0.heap.size 9 v3 (strs P1.ks)) : RwI w0 w' kf L R P1 X vk (L.length + 1) vo v3 := by
  refine ⟨?_, fun _ => h3, hb⟩
  rw [(tlI_at L R P1 X).2, cellsL_one, cellsL_one]
  simpa using ho
end Lf

end Go.Proofs.YtjnaafgiokdcbaaGreatDoor
