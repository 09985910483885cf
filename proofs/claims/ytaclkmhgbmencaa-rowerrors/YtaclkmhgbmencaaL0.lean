/- What the laws' walks share. -/
import Derived.Test.YtaclkmhgbmencaaH2
import Derived.Test.YtaclkmhgbmencaaH5
import Derived.Test.YtaclkmhgbmencaaH6
import Derived.Test.YtaclkmhgbmencaaH7
import Derived.Test.YtaclkmhgbmencaaH8
import Derived.Test.YtaclkmhgbmencaaOpenC
namespace Go.Proofs.Ytaclkmhgbmencaa
open Go.RowKit

theorem Vl.copied {w1 w2 : World} {size n : Nat} {e : TypeId} {v' : Value} {cs : List Value} {o : Obj} (hown : w2.ownsRow w1.heap.size e size v' n cs) (hg : (w1.alloc o).grownBy w2 (Value.slice (some ⟨w1.heap.size, 0, none⟩) 0 0).ownBlock) :
    ∃ p c, v' = .slice p n c ∧ n ≤ c ∧ (p = none → n = 0 ∧ c = 0) ∧ Vl.Lies w2 p cs ∧ Below w1.heap.size w1 w2 := by
  have hb : Below w1.heap.size w1 w2 := (Vl.bal (Below.refl _ _) _).grown hg (by simp) (fun j hj => by cases hj; exact Nat.le_refl _)
  obtain ⟨h0, ⟨e1, e2⟩ | ⟨g, cap, cur, e1, e2, e3, e4, e5, e6, e7⟩⟩ := id hown
  · subst e2
    exact ⟨none, 0, e1, Nat.le_refl _, fun _ => ⟨rfl, rfl⟩, Or.inl (by omega), hb⟩
  · obtain ⟨p, c, e, h1, h2⟩ := Vl.lies_own hown
    rw [e1] at e
    cases e
    exact ⟨_, _, e1, h1, (fun h => nomatch h), h2, hb⟩

/-- append where a guard says yes. -/
theorem Vl.append_w {P : Program} {w : World} {ops : Array Oper} {rest : List Oper} {o : Oper} {a : Act} {Q : Exit → Act → World → Prop} (hw : Region.wanted o (yielded ops a.tmps) = true) (s x : Operand) (t : TypeId)
    (hop : o.op = .call { callee := .builtin .append, args := #[s, x], argTypes := #[t, t] })
    (base : Nat) (e : TypeId) (i : TypeInfo) (z : Value) (size bytes : Nat) (ht : P.underlying t = some (.slice e)) (hi : P.info? e = some i) (hz : i.zero = some z)
    (hsize : i.size = size) (hby : i.bytes = bytes) (hzs : z.cells.size = size) (hsz : 0 < size)
    (v : Value) (n : Nat) (xs : List Value) (hs : a.eval s = v) (hown : w.ownsRow base e size v n xs)
    (p : Option Addr) (m c : Nat) (news : List Value) (hx : a.eval x = .slice p m c) (hnil : p = none → m = 0 ∧ c = 0) (hl : news.length = m * size) (hnews : Vl.Lies w p news) (h1 : ∀ u ∈ news, u.oneCell' = true)
    (h63 : n + m ≤ maxLen) (hbytes : (n + m) * bytes ≤ 140737488355328) (hbase : base ≤ w.heap.size)
    (h : ∀ v' w', w'.ownsRow base e size v' (n + m) (xs ++ news) → w.grownBy w' v.ownBlock → wpList P ops Q rest (a.put o.dst v') w') : wpList P ops Q (o :: rest) a w := by
  refine wpList_step fun K hK => ?_
  rw [if_pos hw]
  have hst := Vl.step_append (P := P) (ops := ops) (o := { o with guard := none }) (a := a) (w := w) (K := K) (Q := Q) (E := True) rfl s x t hop base e i z size bytes ht hi hz hsize hby hzs hsz v n xs hs hown p m c news hx hnil hl hnews h1 h63 hbytes hbase (fun v' w' h2 h3 => hK _ _ (h v' w' h2 h3))
  rw [if_pos (by simp [Region.wanted])] at hst
  exact hst

end Go.Proofs.Ytaclkmhgbmencaa
