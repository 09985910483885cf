/- append of texts that lie anywhere, and of one leaf, as steps of a region that draws. -/
import Derived.Test.YtjnaafgiokdcbaaLd7
namespace Go.Proofs.Ytjnaafgiokdcbaa
open Go.RowKit
namespace Lf
theorem strInfo : ∃ i, Try.prog.info? 9 = some i ∧ i.zero = some (.string ⟨#[]⟩) ∧ i.size = 1 ∧ i.bytes = 16 := ⟨_, Try.type9, rfl, rfl, rfl⟩
theorem sin_len {w : World} {q : Option Addr} {C : List ByteArray} (h : SIn w q C) (hq : q = none) : C = [] := by
  cases C with
  | nil => rfl
  | cons y r =>
    obtain ⟨b, o, e, _⟩ := h 0 y rfl
    rw [hq] at e
    cases e
theorem stepT {ops : Array Oper} {o : Oper} {a : Act} {w : World} {K : Act → World → Prop} {Q : Exit → Act → World → Prop} {E : Prop} (hgd : o.guard = none) (s x : Operand) (ho : o.op = .call { callee := .builtin .append, args := #[s, x], argTypes := #[41, 41] }) (base : Nat) (v : Value) (X : List ByteArray) (hs : a.eval s = v) (hown : Mm.Own w base 9 v (strs X)) (q : Option Addr) (m c : Nat) (C : List ByteArray) (hx : a.eval x = .slice q m c) (hC : C.length = m) (hI : SIn w q C) (hq : q = none → c = 0) (hm : m ≤ 100000) (hX : X.length ≤ 100000) (hbase : base ≤ w.heap.size)
    (h : ∀ v' w', Mm.Own w' base 9 v' (strs (X ++ C)) → w.grownBy w' v.ownBlock → (v'.ownBlock = v.ownBlock ∨ ∀ g, v'.ownBlock = some g → w.heap.size ≤ g) → K (a.put o.dst v') w') : if Region.wanted o (yielded ops a.tmps) = true then Oper.wp Try.prog o a w K Q else E := by
  have hw : Region.wanted o (yielded ops a.tmps) = true := by simp [Region.wanted, hgd]
  rw [if_pos hw]
  obtain ⟨i, h1, h2, h3, h4⟩ := strInfo
  have es : strs (X ++ C) = strs X ++ strs C := by simp [strs]
  cases q with
  | none =>
    have hm0 := sin_len hI rfl
    subst hm0
    have hm1 : m = 0 := hC.symm
    subst hm1
    have hc0 := hq rfl
    subst hc0
    have hrun := run_append_owned_none (P := Try.prog) (w := w) base 41 o.type 9 i 1 Try.underlying41 h1 v _ _ hown
    unfold Oper.wp execOp
    simp only [ho, resolve, invoke, builtin, Sem.run_bind, Sem.run_pure, Result.andThen_ok, List.map_toArray, List.map_cons, List.map_nil, hs, hx, hrun]
    exact h v w (by rw [List.append_nil]; exact hown) ⟨rfl, rfl, rfl, Nat.le_refl _, fun _ _ _ => rfl⟩ (Or.inl rfl)
  | some ad =>
    obtain ⟨v', w', hr, r2, r3, _, r5⟩ := run_append_own_at (P := Try.prog) w base 41 o.type 9 i _ 1 16 Try.underlying41 h1 h2 h3 h4 rfl (by decide) v _ (strs X) hown ad m c (strs C) (by rw [strs_len, Nat.mul_one]; exact hC) (fun j u hj => by
      unfold strs at hj
      rw [List.getElem?_map] at hj
      cases hy : C[j]? with
      | none => rw [hy] at hj; cases hj
      | some y =>
        rw [hy] at hj
        cases hj
        obtain ⟨b, o, e, _, e3⟩ := hI j y hy
        injection e with e
        rw [e, Mm.addPlain]
        exact e3) (strs_one _) (by unfold maxLen; rw [strs_len]; omega) (by rw [strs_len]; omega) hbase
    unfold Oper.wp execOp
    simp only [ho, resolve, invoke, builtin, Sem.run_bind, Sem.run_pure, Result.andThen_ok, List.map_toArray, List.map_cons, List.map_nil, hs, hx, hr]
    refine h v' w' ?_ r3 ?_
    · unfold Mm.Own
      rw [es, List.length_append, strs_len C, hC]
      exact r2
    · rcases r5 with r5 | r5
      · exact Or.inl r5
      · exact Or.inr (fun g hg => by rw [r5] at hg; injection hg with hg; omega)
/-- append of one text that was laid just now. -/
theorem step1T {ops : Array Oper} {o : Oper} {a : Act} {w : World} {K : Act → World → Prop} {Q : Exit → Act → World → Prop} {E : Prop} (hgd : o.guard = none) (s x : Operand) (ho : o.op = .call { callee := .builtin .append, args := #[s, x], argTypes := #[41, 41] }) (base : Nat) (v : Value) (X : List ByteArray) (k : ByteArray) (hs : a.eval s = v) (hown : Mm.Own w base 9 v (strs X)) (B : Nat) (hx : a.eval x = .slice (some ⟨B, 0, none⟩) 1 1) (hc : w.cell? ⟨B, 0, none⟩ = some (.string k)) (hX : X.length ≤ 100000) (hbase : base ≤ w.heap.size)
    (h : ∀ v' w', Mm.Own w' base 9 v' (strs (X ++ [k])) → w.grownBy w' v.ownBlock → (v'.ownBlock = v.ownBlock ∨ ∀ g, v'.ownBlock = some g → w.heap.size ≤ g) → K (a.put o.dst v') w') : if Region.wanted o (yielded ops a.tmps) = true then Oper.wp Try.prog o a w K Q else E := by
  obtain ⟨i, h1, h2, h3, h4⟩ := strInfo
  have es : strs (X ++ [k]) = strs X ++ [.string k] := by simp [strs]
  exact Mm.step1 hgd s x 41 9 i _ 16 Try.underlying41 h1 h2 h3 h4 rfl (by decide) ho base v _ (strs X) hs hown rfl B hx hc (by rw [strs_len]; omega) hbase (fun v' w' h1 h2 h3 => h v' w' (by rw [es]; exact h1) h2 h3)
/-- append of one leaf. -/
theorem stepL {ops : Array Oper} {o : Oper} {a : Act} {w : World} {K : Act → World → Prop} {Q : Exit → Act → World → Prop} {E : Prop} (hgd : o.guard = none) (s x : Operand)
    (ho : o.op = .call { callee := .builtin .append, args := #[s, x], argTypes := #[54, 54] }) (base : Nat) (v : Value) (n : Nat) (xs : List Value) (kf : Nat → Value) (P : Pg) (hkf : ∃ q m c, kf P.n = .slice q m c) (hs : a.eval s = v) (hown : w.ownsRow base 59 4 v n xs) (B : Nat) (hx : a.eval x = .slice (some ⟨B, 0, none⟩) 1 1) (hc : ∀ (j : Nat) (u : Value), (leafC kf P)[j]? = some u → w.cell? ⟨B, j, none⟩ = some u) (hlen : n < 1000000) (hbase : base ≤ w.heap.size)
    (h : ∀ v' w', w'.ownsRow base 59 4 v' (n + 1) (xs ++ leafC kf P) → w.grownBy w' v.ownBlock → (v'.ownBlock = v.ownBlock ∨ ∀ g, v'.ownBlock = some g → w.heap.size ≤ g) → K (a.put o.dst v') w') : if Region.wanted o (yielded ops a.tmps) = true then Oper.wp Try.prog o a w K Q else E := by
  have hw : Region.wanted o (yielded ops a.tmps) = true := by simp [Region.wanted, hgd]
  rw [if_pos hw]
  obtain ⟨i, h1, h2, h3, h4⟩ := leafInfo
  obtain ⟨v', w', hr, r2, r3, _, r5⟩ := run_append_own_at (P := Try.prog) w base 54 o.type 59 i _ 4 56 Try.underlying54 h1 h2 h3 h4 rfl (by decide) v n xs hown ⟨B, 0, none⟩ 1 1 (leafC kf P) rfl (fun j u hj => by rw [Mm.addPlain, Nat.zero_add]; exact hc j u hj) (leaf_one kf P hkf) (by unfold maxLen; omega) (by omega) hbase
  unfold Oper.wp execOp
  simp only [ho, resolve, invoke, builtin, Sem.run_bind, Sem.run_pure, Result.andThen_ok, List.map_toArray, List.map_cons, List.map_nil, hs, hx, hr]
  refine h v' w' r2 r3 ?_
  rcases r5 with r5 | r5
  · exact Or.inl r5
  · exact Or.inr (fun g hg => by rw [r5] at hg; injection hg with hg; omega)
end Lf
end Go.Proofs.Ytjnaafgiokdcbaa
