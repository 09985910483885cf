/- The reference's leaves, for changes: a row of structs of four cells; append of one leaf. -/
import Derived.Test.YtjnaafgiokdcbaaLd3
namespace Go.Proofs.Ytjnaafgiokdcbaa
open Go.RowKit
namespace Lf
def leafC (kf : Nat → Value) (P : Pg) : List Value := [.int .i64 (P.n : Int), .bool (decide (P.b = ⟨#[]⟩)), .string P.b, kf P.n]
def cellsL (kf : Nat → Value) : List Pg → List Value
  | [] => []
  | P :: l => leafC kf P ++ cellsL kf l
theorem cellsL_length (kf : Nat → Value) : ∀ l, (cellsL kf l).length = l.length * 4
  | [] => rfl
  | _ :: l => by simp [cellsL, leafC, cellsL_length kf l]; omega
theorem cellsL_app (kf : Nat → Value) : ∀ (a b : List Pg), cellsL kf (a ++ b) = cellsL kf a ++ cellsL kf b
  | [], _ => rfl
  | x :: a, b => by simp [cellsL, cellsL_app kf a b]
theorem cellsL_at (kf : Nat → Value) : ∀ (l : List Pg) (j : Nat) (P : Pg), l[j]? = some P → (cellsL kf l)[j * 4]? = some (.int .i64 (P.n : Int)) ∧ (cellsL kf l)[j * 4 + 1]? = some (.bool (decide (P.b = ⟨#[]⟩))) ∧ (cellsL kf l)[j * 4 + 2]? = some (.string P.b) ∧ (cellsL kf l)[j * 4 + 3]? = some (kf P.n)
  | [], j, P, h => by simp at h
  | x :: l, 0, P, h => by simp at h; subst h; simp [cellsL, leafC]
  | x :: l, j + 1, P, h => by
    have ih := cellsL_at kf l j P (by simpa using h)
    rw [show (j + 1) * 4 = j * 4 + 4 from by omega, show j * 4 + 4 + 1 = (j * 4 + 1) + 4 from by omega, show j * 4 + 4 + 2 = (j * 4 + 2) + 4 from by omega, show j * 4 + 4 + 3 = (j * 4 + 3) + 4 from by omega]
    simpa [cellsL, leafC] using ih
theorem leafInfo : ∃ i, Try.prog.info? 59 = some i ∧ i.zero = some (.agg #[.int .i64 0, .bool false, .string ⟨#[]⟩, .slice none 0 0]) ∧ i.size = 4 ∧ i.bytes = 56 := ⟨_, Try.type59, rfl, rfl, rfl⟩
theorem leaf_one (kf : Nat → Value) (P : Pg) (h : ∃ q m c, kf P.n = .slice q m c) : ∀ u ∈ leafC kf P, u.oneCell' = true := fun u hu => by
  obtain ⟨q, m, c, e⟩ := h
  simp only [leafC, List.mem_cons, List.not_mem_nil, or_false] at hu
  rcases hu with rfl | rfl | rfl | rfl
  · rfl
  · rfl
  · rfl
  · rw [e]; rfl
/-- append of one leaf. -/
theorem appL {ops : Array Oper} {rest : List Oper} {o : Oper} {a : Act} {Q : Exit → Act → World → Prop} {w : World} (hgd : o.guard = none) (s x : Operand)
    (ho : o.op = .call { callee := .builtin .append, args := #[s, x], argTypes := #[54, 54] }) (base : Nat) (v : Value) (n : Nat) (xs : List Value) (kf : Nat → Value) (P : Pg) (hkf : ∃ q m c, kf P.n = .slice q m c) (hs : a.eval s = v) (hown : w.ownsRow base 59 4 v n xs) (B : Nat) (hx : a.eval x = .slice (some ⟨B, 0, none⟩) 1 1) (hc : ∀ (j : Nat) (u : Value), (leafC kf P)[j]? = some u → w.cell? ⟨B, j, none⟩ = some u) (hlen : n < 1000000) (hbase : base ≤ w.heap.size)
    (h : ∀ v' w', w'.ownsRow base 59 4 v' (n + 1) (xs ++ leafC kf P) → w.grownBy w' v.ownBlock → (v'.ownBlock = v.ownBlock ∨ ∀ g, v'.ownBlock = some g → w.heap.size ≤ g) → wpList Try.prog ops Q rest (a.put o.dst v') w') : wpList Try.prog ops Q (o :: rest) a w := by
  obtain ⟨i, h1, h2, h3, h4⟩ := leafInfo
  refine wpList_append_own_at _ hgd s x 54 ho base 59 i _ 4 56 Try.underlying54 h1 h2 h3 h4 rfl (by decide) v n xs hs hown ⟨B, 0, none⟩ 1 1 (leafC kf P) hx rfl (fun j u hj => by rw [Mm.addPlain, Nat.zero_add]; exact hc j u hj) (leaf_one kf P hkf) (by unfold maxLen; omega) (by omega) hbase (fun v' w' h1 h2 _ h4 => h v' w' h1 h2 ?_)
  rcases h4 with h4 | h4
  · exact Or.inl h4
  · exact Or.inr (fun g hg => by rw [h4] at hg; injection hg with hg; omega)
end Lf
end Go.Proofs.Ytjnaafgiokdcbaa
