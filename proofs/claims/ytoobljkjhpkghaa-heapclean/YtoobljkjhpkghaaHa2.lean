/- Versions of rows: plain, and a relation of them in memory. -/
import Derived.Test.YtoobljkjhpkghaaHa1
namespace Go.Proofs.Ytoobljkjhpkghaa
open Go.RowKit

namespace Hp
/-- A version: its number, who made it, who ended it, its row, and where that lies. -/
structure Ver where
  tid : Nat
  xmin : Int
  xmax : Int
  p : Option Addr
  c : Nat
  xs : List Vl.V
def Ver.rv (v : Ver) : Value := .slice v.p v.xs.length v.c
def Ver.ag (v : Ver) : Value := .agg #[.int .i64 (v.tid : Int), .int .i64 v.xmin, .int .i64 v.xmax, .slice v.p v.xs.length v.c]
def v0 : Ver := ⟨0, 0, 0, none, 0, []⟩
/-- Versions, and the next one's number. -/
structure R where
  vs : List Ver
  nx : Nat
def r0 : R := ⟨[], 0⟩
/-- What always is so. -/
structure Inv (r : R) : Prop where
  up : r.vs.Pairwise (fun a b => a.tid < b.tid)
  lt : ∀ v ∈ r.vs, v.tid < r.nx
  len : r.vs.length ≤ 512
  nx : r.nx ≤ 65536
theorem inv0 : Inv r0 := ⟨List.Pairwise.nil, fun v h => by simp [r0] at h, Nat.zero_le _, Nat.zero_le _⟩
/-- The version of a number. -/
def fnd (l : List Ver) (t : Int) : Option Ver := l.find? (fun v => (v.tid : Int) == t)
def cellsR : List Ver → List Value
  | [] => []
  | v :: l => .int .i64 (v.tid : Int) :: .int .i64 v.xmin :: .int .i64 v.xmax :: .slice v.p v.xs.length v.c :: cellsR l
theorem cellsR_length : ∀ l, (cellsR l).length = l.length * 4
  | [] => rfl
  | _ :: l => by simp [cellsR, cellsR_length l]; omega
theorem cellsR_app : ∀ (a b : List Ver), cellsR (a ++ b) = cellsR a ++ cellsR b
  | [], _ => rfl
  | x :: a, b => by simp [cellsR, cellsR_app a b]
theorem cellsR_at : ∀ (l : List Ver) (j : Nat) (v : Ver), l[j]? = some v → (cellsR l)[j * 4]? = some (.int .i64 (v.tid : Int)) ∧ (cellsR l)[j * 4 + 1]? = some (.int .i64 v.xmin) ∧ (cellsR l)[j * 4 + 2]? = some (.int .i64 v.xmax) ∧ (cellsR l)[j * 4 + 3]? = some (.slice v.p v.xs.length v.c)
  | [], j, v, h => by simp at h
  | x :: l, 0, v, h => by simp at h; subst h; simp [cellsR]
  | x :: l, j + 1, v, h => by
    have ih := cellsR_at l j v (by simpa using h)
    rw [show (j + 1) * 4 = j * 4 + 4 from by omega, show j * 4 + 4 + 1 = (j * 4 + 1) + 4 from by omega, show j * 4 + 4 + 2 = (j * 4 + 2) + 4 from by omega, show j * 4 + 4 + 3 = (j * 4 + 3) + 4 from by omega]
    simpa [cellsR] using ih
theorem cellsR_set : ∀ (l : List Ver) (k : Nat) (v : Ver) (x : Int), l[k]? = some v → cellsR (l.set k { v with xmax := x }) = (cellsR l).set (k * 4 + 2) (.int .i64 x)
  | [], k, v, x, h => by simp at h
  | y :: l, 0, v, x, h => by simp at h; subst h; simp [cellsR]
  | y :: l, k + 1, v, x, h => by
    have ih := cellsR_set l k v x (by simpa using h)
    rw [show (k + 1) * 4 + 2 = (k * 4 + 2) + 4 from by omega]
    simp [cellsR, ih]

/-- A relation in memory. -/
structure Rl (w : World) (base b : Nat) (r : R) (sv : Value) : Prop where
  blk : w.heap[b]? = some (.cells #[sv, .int .i64 (r.nx : Int)] 94 (0, 0))
  lo : base ≤ b
  own : w.ownsRow base 100 4 sv r.vs.length (cellsR r.vs)
  ne : sv.ownBlock ≠ some b
  rows : ∀ v ∈ r.vs, w.ownsRow base 50 4 v.rv v.xs.length (Vl.cellsV v.xs)
  sep : ∀ v ∈ r.vs, ∀ g, v.rv.ownBlock = some g → g ≠ b ∧ sv.ownBlock ≠ some g
  small : ∀ v ∈ r.vs, v.xs.length ≤ 1000000
def Rn (w : World) (base b : Nat) (r : R) : Prop := ∃ sv, Rl w base b r sv
theorem ownKeep {w w' : World} {base n size : Nat} {e : TypeId} {v : Value} {cs : List Value} (h : w.ownsRow base e size v n cs) (hk : ∀ g, v.ownBlock = some g → w'.heap[g]? = w.heap[g]?) : w'.ownsRow base e size v n cs := by
  obtain ⟨h0, h1 | ⟨g, cap, cur, e1, e2, e3, e4⟩⟩ := h
  · exact ⟨h0, Or.inl h1⟩
  · exact ⟨h0, Or.inr ⟨g, cap, cur, e1, e2, (hk g (by rw [e1]; rfl)).trans e3, e4⟩⟩
theorem ownBase {w : World} {b b' n size : Nat} {e : TypeId} {v : Value} {cs : List Value} (h : w.ownsRow b e size v n cs) (hb : b' ≤ b) : w.ownsRow b' e size v n cs := by
  obtain ⟨h0, h1 | ⟨g, cap, cur, e1, e2, e3⟩⟩ := h
  · exact ⟨h0, Or.inl h1⟩
  · exact ⟨h0, Or.inr ⟨g, cap, cur, e1, Nat.le_trans hb e2, e3⟩⟩
theorem ownLt {w : World} {base n size : Nat} {e : TypeId} {v : Value} {cs : List Value} (h : w.ownsRow base e size v n cs) {g : Nat} (hg : v.ownBlock = some g) : base ≤ g ∧ g < w.heap.size := World.ownsRow.lt h g hg
/-- Whatever keeps the blocks from base on keeps it. -/
theorem Rl.keep {w w' : World} {base b : Nat} {r : R} {sv : Value} (h : Rl w base b r sv) (hk : ∀ g, base ≤ g → g < w.heap.size → w'.heap[g]? = w.heap[g]?) : Rl w' base b r sv :=
  ⟨(hk b h.lo (Mm.heapLt h.blk)).trans h.blk, h.lo, ownKeep h.own (fun g hg => hk g (ownLt h.own hg).1 (ownLt h.own hg).2), h.ne, fun v hv => ownKeep (h.rows v hv) (fun g hg => hk g (ownLt (h.rows v hv) hg).1 (ownLt (h.rows v hv) hg).2), h.sep, h.small⟩
theorem Rl.below {w w' : World} {base b : Nat} {r : R} {sv : Value} (h : Rl w base b r sv) (hb : Below w.heap.size w w') : Rl w' base b r sv := h.keep (fun g _ hg => hb.block g hg)
theorem Rn.keep {w w' : World} {base b : Nat} {r : R} (h : Rn w base b r) (hk : ∀ g, base ≤ g → g < w.heap.size → w'.heap[g]? = w.heap[g]?) : Rn w' base b r := by obtain ⟨sv, h⟩ := h; exact ⟨sv, h.keep hk⟩
theorem Rn.below {w w' : World} {base b : Nat} {r : R} (h : Rn w base b r) (hb : Below w.heap.size w w') : Rn w' base b r := h.keep (fun g _ hg => hb.block g hg)
theorem Rn.lt {w : World} {base b : Nat} {r : R} (h : Rn w base b r) : b < w.heap.size ∧ base ≤ b := by obtain ⟨sv, h⟩ := h; exact ⟨Mm.heapLt h.blk, h.lo⟩
theorem Rl.c0 {w : World} {base b : Nat} {r : R} {sv : Value} (h : Rl w base b r sv) : w.cell? ⟨b, 0, none⟩ = some sv := Mm.cellOf h.blk rfl
theorem Rl.c1 {w : World} {base b : Nat} {r : R} {sv : Value} (h : Rl w base b r sv) : w.cell? ⟨b, 1, none⟩ = some (.int .i64 (r.nx : Int)) := Mm.cellOf h.blk rfl
theorem Rl.fr {w : World} {base b : Nat} {r : R} {sv : Value} (h : Rl w base b r sv) (q : Nat) : w.frozen? ⟨b, q, none⟩ = false := by simp [World.frozen?, h.blk]
/-- The slice of versions: its shape. -/
theorem Rl.shape {w : World} {base b : Nat} {r : R} {sv : Value} (h : Rl w base b r sv) : ∃ p c, sv = .slice p r.vs.length c ∧ r.vs.length ≤ c ∧ (p = none → r.vs = []) ∧ ∀ a, p = some a → ∃ g, a = ⟨g, 0, none⟩ ∧ base ≤ g ∧ g < w.heap.size ∧ g ≠ b := by
  obtain ⟨_, ⟨h1, h2⟩ | ⟨g, cap, cur, h1, h2, h3, h4, h5, _⟩⟩ := h.own
  · exact ⟨none, 0, by rw [h1, h2], by omega, fun _ => List.length_eq_zero_iff.1 h2, fun a e => nomatch e⟩
  · refine ⟨_, cap, h1, h4, (fun e => nomatch e), fun a e => ⟨g, by cases e; rfl, h2, Mm.heapLt h3, fun e2 => h.ne (by rw [h1, e2]; rfl)⟩⟩
set_option maxRecDepth 100000 in
theorem verInfo : ∃ i, Try.prog.info? 100 = some i ∧ i.zero = some (.agg #[.int .i64 0, .int .i64 0, .int .i64 0, .slice none 0 0]) ∧ i.size = 4 ∧ i.bytes = 48 := ⟨_, Try.type100, rfl, rfl, rfl⟩
/-- What Insert answers, and what it leaves behind. -/
def insE (r : R) (x : Int) : Nat := if x < 1 then 1 else if r.vs.length = 512 ∨ 65535 < r.nx then 74 else 0
def insA (r : R) (x : Int) : Nat := if x < 1 then 0 else if r.vs.length = 512 ∨ 65535 < r.nx then 0 else r.nx
def insS (r : R) (x : Int) (p : Option Addr) (c : Nat) (xs : List Vl.V) : R := if x < 1 then r else if r.vs.length = 512 ∨ 65535 < r.nx then r else ⟨r.vs ++ [⟨r.nx, x, 0, p, c, xs⟩], r.nx + 1⟩
theorem Inv.insS {r : R} (h : Inv r) (x : Int) (p : Option Addr) (c : Nat) (xs : List Vl.V) : Inv (insS r x p c xs) := by
  unfold Hp.insS
  split
  · exact h
  · split
    · exact h
    · rename_i h1 h2
      refine ⟨?_, fun v hv => ?_, ?_, ?_⟩
      · show (r.vs ++ [_]).Pairwise _
        rw [List.pairwise_append]
        exact ⟨h.up, List.pairwise_singleton .., fun a ha b hb => by rw [List.mem_singleton.1 hb]; exact h.lt a ha⟩
      · have hv' : v ∈ r.vs ++ [_] := hv
        rcases List.mem_append.1 hv' with hv' | hv'
        · exact Nat.lt_succ_of_lt (h.lt v hv')
        · rw [List.mem_singleton.1 hv']; exact Nat.lt_succ_self _
      · show (r.vs ++ [_]).length ≤ 512
        rw [List.length_append]; have := h.len; simp; omega
      · show r.nx + 1 ≤ 65536
        omega
end Hp

set_option maxRecDepth 100000 in
set_option maxHeartbeats 2000000 in
theorem hnew_any (w : World) (base : Nat) (hbase : base ≤ w.heap.size) :
    Calls Try.prog 10 #[] w fun e w' => e = .returned (.pointer (some ⟨w.heap.size, 0, none⟩)) ∧ Hp.Rn w' base w.heap.size Hp.r0 ∧ Below w.heap.size w w' := by
  go_enter Try.func10, Try.ntmps10
  go_wp2
  go_ret
  exact ⟨rfl, ⟨.slice none 0 0, Mm.newAt _ _ rfl, hbase, ⟨rfl, Or.inl ⟨rfl, rfl⟩⟩, (fun h => nomatch h), fun v h => by simp [Hp.r0] at h, fun v h => by simp [Hp.r0] at h, fun v h => by simp [Hp.r0] at h⟩, (Below.refl _ _).alloc (Nat.le_refl _) _⟩

namespace Hp
theorem grTr {w w2 w3 : World} {row : Option Nat} (h : Below w.heap.size w w2) (k : w2.grownBy w3 row) : w.grownBy w3 row :=
  ⟨k.os.trans h.os, k.tape.trans h.tape, k.output.trans h.output, Nat.le_trans h.size k.size, fun i hi hr => (k.block i (Nat.lt_of_lt_of_le hi h.size) hr).trans (h.block i hi)⟩
theorem four_one (y : Ver) : ∀ u ∈ cellsR [y], u.oneCell' = true := fun u hu => by
  simp only [cellsR, List.mem_cons, List.not_mem_nil, or_false] at hu
  rcases hu with rfl | rfl | rfl | rfl <;> rfl
theorem four_new (w : World) (y : Ver) (t : TypeId) {B : Nat} (hB : B = w.heap.size) : ∀ (j : Nat) (u : Value), (cellsR [y])[j]? = some u → (w.alloc (.cells #[.int .i64 (y.tid : Int), .int .i64 y.xmin, .int .i64 y.xmax, .slice y.p y.xs.length y.c] t)).cell? ⟨B, j, none⟩ = some u := fun j u hu => by
  subst hB
  refine Mm.cellOf (Mm.newAt w _ rfl) ?_
  rw [← hu, show cellsR [y] = [.int .i64 (y.tid : Int), .int .i64 y.xmin, .int .i64 y.xmax, .slice y.p y.xs.length y.c] from rfl, List.getElem?_toArray]
/-- append of one version. -/
theorem appV {ops : Array Oper} {rest : List Oper} {o : Oper} {a : Act} {Q : Exit → Act → World → Prop} {w : World} (hgd : o.guard = none) (s x : Operand)
    (ho : o.op = .call { callee := .builtin .append, args := #[s, x], argTypes := #[92, 92] }) (base : Nat) (v : Value) (n : Nat) (xs : List Value) (y : Ver) (hs : a.eval s = v) (hown : w.ownsRow base 100 4 v n xs) (B : Nat) (hx : a.eval x = .slice (some ⟨B, 0, none⟩) 1 1) (hc : ∀ (j : Nat) (u : Value), (cellsR [y])[j]? = some u → w.cell? ⟨B, j, none⟩ = some u) (hlen : n < 1000000) (hbase : base ≤ w.heap.size)
    (h : ∀ v' w', w'.ownsRow base 100 4 v' (n + 1) (xs ++ cellsR [y]) → w.grownBy w' v.ownBlock → (v'.ownBlock = v.ownBlock ∨ ∀ g, v'.ownBlock = some g → w.heap.size ≤ g) → wpList Try.prog ops Q rest (a.put o.dst v') w') : wpList Try.prog ops Q (o :: rest) a w := by
  obtain ⟨i, h1, h2, h3, h4⟩ := verInfo
  refine wpList_append_own_at _ hgd s x 92 ho base 100 i _ 4 48 Try.underlying92 h1 h2 h3 h4 rfl (by decide) v n xs hs hown ⟨B, 0, none⟩ 1 1 (cellsR [y]) hx rfl (fun j u hj => by rw [Mm.addPlain, Nat.zero_add]; exact hc j u hj) (four_one y) (by unfold maxLen; omega) (by omega) hbase (fun v' w' h1 h2 _ h4 => h v' w' h1 h2 ?_)
  rcases h4 with h4 | h4
  · exact Or.inl h4
  · exact Or.inr (fun g hg => by rw [h4] at hg; injection hg with hg; omega)
theorem stepV {ops : Array Oper} {o : Oper} {a : Act} {w : World} {K : Act → World → Prop} {Q : Exit → Act → World → Prop} {E : Prop} (hgd : o.guard = none) (s x : Operand)
    (ho : o.op = .call { callee := .builtin .append, args := #[s, x], argTypes := #[92, 92] }) (base : Nat) (v : Value) (n : Nat) (xs : List Value) (y : Ver) (hs : a.eval s = v) (hown : w.ownsRow base 100 4 v n xs) (B : Nat) (hx : a.eval x = .slice (some ⟨B, 0, none⟩) 1 1) (hc : ∀ (j : Nat) (u : Value), (cellsR [y])[j]? = some u → w.cell? ⟨B, j, none⟩ = some u) (hlen : n < 1000000) (hbase : base ≤ w.heap.size)
    (h : ∀ v' w', w'.ownsRow base 100 4 v' (n + 1) (xs ++ cellsR [y]) → w.grownBy w' v.ownBlock → (v'.ownBlock = v.ownBlock ∨ ∀ g, v'.ownBlock = some g → w.heap.size ≤ g) → K (a.put o.dst v') w') : if Region.wanted o (yielded ops a.tmps) = true then Oper.wp Try.prog o a w K Q else E := by
  obtain ⟨i, h1, h2, h3, h4⟩ := verInfo
  have hw : Region.wanted o (yielded ops a.tmps) = true := by simp [Region.wanted, hgd]
  rw [if_pos hw]
  obtain ⟨v', w', hr, k2, k3, _, k5⟩ := run_append_own_at (P := Try.prog) w base 92 o.type 100 i _ 4 48 Try.underlying92 h1 h2 h3 h4 rfl (by decide) v n xs hown ⟨B, 0, none⟩ 1 1 (cellsR [y]) rfl (fun j u hj => by rw [Mm.addPlain, Nat.zero_add]; exact hc j u hj) (four_one y) (by unfold maxLen; omega) (by omega) hbase
  unfold Oper.wp execOp
  simp only [ho, resolve, invoke, builtin, Sem.run_bind, Sem.run_pure, Result.andThen_ok, List.map_toArray, List.map_cons, List.map_nil, hs, hx, hr]
  refine h v' w' k2 k3 ?_
  rcases k5 with k5 | k5
  · exact Or.inl k5
  · exact Or.inr (fun g hg => by rw [k5] at hg; injection hg with hg; omega)
theorem set1_heap {W : World} {T : Nat} {a b v : Value} {t : TypeId} {fr : Nat × Nat} (h : W.heap[T]? = some (.cells #[a, b] t fr)) : (W.setCell ⟨T, 1, none⟩ v).heap[T]? = some (.cells #[a, v] t fr) := by
  simp [World.setCell, Array.getElem?_modify, h]
theorem set0_heap {W : World} {T : Nat} {a b v : Value} {t : TypeId} {fr : Nat × Nat} (h : W.heap[T]? = some (.cells #[a, b] t fr)) : (W.setCell ⟨T, 0, none⟩ v).heap[T]? = some (.cells #[v, b] t fr) := by
  simp [World.setCell, Array.getElem?_modify, h]
/-- One version more, in memory. -/
theorem Rl.put {w W : World} {base b : Nat} {r : R} {sv v3 : Value} {y : Ver} (h : Rl w base b r sv) (hg : w.grownBy W sv.ownBlock)
    (own : W.ownsRow base 100 4 v3 (r.vs.length + 1) (cellsR r.vs ++ cellsR [y])) (h3 : v3.ownBlock = sv.ownBlock ∨ ∀ g, v3.ownBlock = some g → w.heap.size ≤ g)
    (hy : W.ownsRow base 50 4 y.rv y.xs.length (Vl.cellsV y.xs)) (hy2 : ∀ g, y.rv.ownBlock = some g → w.heap.size ≤ g ∧ v3.ownBlock ≠ some g) (hsm : y.xs.length ≤ 1000000) :
    Rl ((W.setCell ⟨b, 0, none⟩ v3).setCell ⟨b, 1, none⟩ (.int .i64 ((r.nx : Int) + 1))) base b ⟨r.vs ++ [y], r.nx + 1⟩ v3 := by
  have hb : b < w.heap.size := Mm.heapLt h.blk
  have hW : W.heap[b]? = some (.cells #[sv, .int .i64 (r.nx : Int)] 94 (0, 0)) := (hg.block b hb (fun e => h.ne e.symm)).trans h.blk
  have hne : v3.ownBlock ≠ some b := by
    rcases h3 with h3 | h3
    · rw [h3]; exact h.ne
    · intro e; have := h3 b e; omega
  have ot : ∀ g, g ≠ b → ((W.setCell ⟨b, 0, none⟩ v3).setCell ⟨b, 1, none⟩ (.int .i64 ((r.nx : Int) + 1))).heap[g]? = W.heap[g]? := fun g hgb => (heap_setCell_other _ ⟨b, 1, none⟩ g _ hgb).trans (heap_setCell_other W ⟨b, 0, none⟩ g _ hgb)
  refine ⟨set1_heap (set0_heap hW), h.lo, ?_, hne, fun v hv => ?_, fun v hv g hvg => ?_, fun v hv => ?_⟩
  · have : (⟨r.vs ++ [y], r.nx + 1⟩ : R).vs.length = r.vs.length + 1 := by simp
    rw [this]
    show World.ownsRow _ base _ 4 v3 (r.vs.length + 1) (cellsR (r.vs ++ [y]))
    rw [cellsR_app]
    exact ownKeep own (fun g hgv => ot g (fun e => hne (by rw [hgv, e])))
  · rcases List.mem_append.1 hv with hv | hv
    · refine ownKeep (h.rows v hv) (fun g hgv => ?_)
      obtain ⟨s1, s2⟩ := h.sep v hv g hgv
      exact (ot g s1).trans (hg.block g (ownLt (h.rows v hv) hgv).2 (fun e => s2 e.symm))
    · rw [List.mem_singleton.1 hv]
      refine ownKeep hy (fun g hgv => ot g ?_)
      have := (hy2 g hgv).1; omega
  · rcases List.mem_append.1 hv with hv | hv
    · obtain ⟨s1, s2⟩ := h.sep v hv g hvg
      refine ⟨s1, ?_⟩
      rcases h3 with h3 | h3
      · rw [h3]; exact s2
      · intro e; have := h3 g e; have := (ownLt (h.rows v hv) hvg).2; omega
    · rw [List.mem_singleton.1 hv] at hvg
      obtain ⟨s1, s2⟩ := hy2 g hvg
      exact ⟨by omega, s2⟩
  · rcases List.mem_append.1 hv with hv | hv
    · exact h.small v hv
    · rw [List.mem_singleton.1 hv]; exact hsm
end Hp
end Go.Proofs.Ytoobljkjhpkghaa
