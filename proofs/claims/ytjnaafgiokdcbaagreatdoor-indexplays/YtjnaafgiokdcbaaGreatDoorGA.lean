/- Rows of one's own in memory. -/
import Derived.Test.YtjnaafgiokdcbaaGreatDoorRows
import Derived.WalkKit
import Derived.WalkSpells
import Derived.WalkLawsBesides
import Derived.Deep.QuietTactic
import Derived.BigQuiet
import Derived.Deep.RegionHeld3
import Derived.Laws.AppendOwnNone
import Derived.Maps.AppendAt
import Derived.OwnWalk
import Derived.Deep.RegionLaw

namespace Go.Proofs.YtjnaafgiokdcbaaGreatDoor
open Go.RowKit

namespace Mm
/-- Puts a fact aside. -/
theorem hid {p : Prop} (h : p) : Hid p := h
theorem belAt {W w1 : World} (hb : Below W.heap.size W w1) {b : Nat} (o : Nat) (h : b < W.heap.size) : w1.cell? ⟨b, o, none⟩ = W.cell? ⟨b, o, none⟩ := hb.cell (p := ⟨b, o, none⟩) h
theorem newAt (w : World) (x : Obj) {n : Nat} (h : n = w.heap.size) : (w.alloc x).heap[n]? = some x := by subst h; show (w.heap.push x)[w.heap.size]? = _; simp
theorem oldAt (w : World) (x : Obj) {n : Nat} (h : n < w.heap.size) : (w.alloc x).heap[n]? = w.heap[n]? := Below.heap_alloc w x n h
theorem belAl {B : Nat} {w w1 : World} (h : Below B w w1) (hB : B ≤ w.heap.size) (o : Obj) : Below B w (w1.alloc o) := h.alloc (Nat.le_trans hB h.size) o
theorem belTr {B : Nat} {w w1 w2 : World} (h : Below B w w1) (hB : B ≤ w.heap.size) (h2 : Below w1.heap.size w1 w2) : Below B w w2 := h.trans (h2.mono (Nat.le_trans hB h.size))
theorem addPlain (b o k : Nat) : (⟨b, o, none⟩ : Addr).add k = ⟨b, o + k, none⟩ := Addr.add_lit b o k
theorem heapLt {w : World} {b : Nat} {x : Obj} (h : w.heap[b]? = some x) : b < w.heap.size := (Array.getElem?_eq_some_iff.1 h).1
theorem cellOf {w : World} {b i : Nat} {cs : Array Value} {t : TypeId} {fr : Nat × Nat} {u : Value} (h : w.heap[b]? = some (.cells cs t fr)) (hu : cs[i]? = some u) : w.cell? ⟨b, i, none⟩ = some u := by simp [World.cell?, h, hu]

/-- Whole numbers as cells; places as cells. -/
def its (l : List Int) : List Value := l.map (Value.int .i64)
def nts (l : List Nat) : List Value := l.map (fun p : Nat => Value.int .i64 (p : Int))
@[simp] theorem its_len (l : List Int) : (its l).length = l.length := by simp [its]
@[simp] theorem nts_len (l : List Nat) : (nts l).length = l.length := by simp [nts]
theorem its_at {l : List Int} {i : Nat} {x : Int} (h : l[i]? = some x) : (its l)[i]? = some (.int .i64 x) := by simp [its, h]
theorem nts_at {l : List Nat} {i x : Nat} (h : l[i]? = some x) : (nts l)[i]? = some (.int .i64 (x : Int)) := by simp [nts, h]
theorem nts_one (l : List Nat) : ∀ v ∈ nts l, v.oneCell' = true := fun v hv => by obtain ⟨_, _, rfl⟩ := List.mem_map.1 hv; rfl
theorem its_one (l : List Int) : ∀ v ∈ its l, v.oneCell' = true := fun v hv => by obtain ⟨_, _, rfl⟩ := List.mem_map.1 hv; rfl
theorem nts_app (a b : List Nat) : nts (a ++ b) = nts a ++ nts b := List.map_append
theorem its_app (a b : List Int) : its (a ++ b) = its a ++ its b := List.map_append

/-- A row of one's own of one-cell elements. -/
def Own (w : World) (base : Nat) (e : TypeId) (v : Value) (xs : List Value) : Prop := w.ownsRow base e 1 v xs.length xs

theorem Own.shape {w : World} {base : Nat} {e : TypeId} {v : Value} {xs : List Value} (h : Own w base e v xs) : ∃ p c, v = .slice p xs.length c ∧ xs.length ≤ c ∧ c ≤ maxLen ∧ (p = none → xs = [] ∧ c = 0) ∧ (xs ≠ [] → ∃ g, p = some ⟨g, 0, none⟩) := by
  obtain ⟨_, ⟨h1, h2⟩ | ⟨g, cap, cur, h1, h2, h3, h4, h5, _⟩⟩ := h
  · have hx : xs = [] := List.length_eq_zero_iff.1 h2
    subst hx
    exact ⟨none, 0, h1, Nat.le_refl _, Nat.zero_le _, fun _ => ⟨rfl, rfl⟩, fun h => absurd rfl h⟩
  · exact ⟨_, cap, h1, h4, h5, (fun h => nomatch h), fun _ => ⟨g, rfl⟩⟩
theorem Own.at {w : World} {base : Nat} {e : TypeId} {v : Value} {xs : List Value} (h : Own w base e v xs) {i : Nat} {u : Value} (hu : xs[i]? = some u) : ∃ g c, v = .slice (some ⟨g, 0, none⟩) xs.length c ∧ xs.length ≤ c ∧ w.cell? ⟨g, i, none⟩ = some u ∧ w.frozen? ⟨g, i, none⟩ = false ∧ i < xs.length := by
  have hi := (List.getElem?_eq_some_iff.1 hu).1
  obtain ⟨_, ⟨_, h2⟩ | ⟨g, cap, cur, h1, h2, h3, h4, _, h6, h7⟩⟩ := h
  · omega
  · refine ⟨g, cap, h1, h4, cellOf h3 ?_, by simp [World.frozen?, h3], hi⟩
    rw [Nat.mul_one] at h7
    rw [← h7, List.getElem?_take_of_lt hi] at hu
    simpa using hu
theorem Own.cell {w : World} {base g c : Nat} {e : TypeId} {xs : List Value} {n : Nat} (h : Own w base e (.slice (some ⟨g, 0, none⟩) n c) xs) {i : Nat} {u : Value} (hu : xs[i]? = some u) : w.cell? ⟨g, i, none⟩ = some u ∧ w.frozen? ⟨g, i, none⟩ = false := by
  obtain ⟨g', c', h1, _, h2, h3, _⟩ := h.at hu
  cases h1
  exact ⟨h2, h3⟩
theorem Own.lt {w : World} {base : Nat} {e : TypeId} {v : Value} {xs : List Value} (h : Own w base e v xs) {g : Nat} (hg : v.ownBlock = some g) : g < w.heap.size ∧ base ≤ g := by
  obtain ⟨_, ⟨h1, _⟩ | ⟨g', cap, cur, h1, h2, h3, _⟩⟩ := h
  · subst h1; cases hg
  · subst h1; cases hg; exact ⟨heapLt h3, h2⟩
theorem Own.keep {w w' : World} {base : Nat} {e : TypeId} {v : Value} {xs : List Value} (h : Own w base e v xs) (hk : ∀ g, v.ownBlock = some g → w'.heap[g]? = w.heap[g]?) : Own w' base e v xs := by
  obtain ⟨h0, h1 | ⟨g, cap, cur, e1, e2, e3, e4⟩⟩ := h
  · exact ⟨h0, Or.inl h1⟩
  · exact ⟨h0, Or.inr ⟨g, cap, cur, e1, e2, (hk g (by rw [e1]; rfl)).trans e3, e4⟩⟩
theorem Own.below {w w2 : World} {base : Nat} {e : TypeId} {v : Value} {xs : List Value} (h : Own w base e v xs) (hb : Below w.heap.size w w2) : Own w2 base e v xs := h.keep (fun _ hg => hb.block _ (h.lt hg).1)
theorem Own.base {w : World} {b b' : Nat} {e : TypeId} {v : Value} {xs : List Value} (h : Own w b e v xs) (hb : b' ≤ b) : Own w b' e v xs := by
  obtain ⟨h0, h1 | ⟨g, cap, cur, e1, e2, e3⟩⟩ := h
  · exact ⟨h0, Or.inl h1⟩
  · exact ⟨h0, Or.inr ⟨g, cap, cur, e1, Nat.le_trans hb e2, e3⟩⟩
theorem Own.nil (w : World) (base : Nat) (e : TypeId) : Own w base e (.slice none 0 0) [] := ⟨rfl, Or.inl ⟨rfl, rfl⟩⟩
/-- The first ones. -/
theorem Own.take {w : World} {base g n c : Nat} {e : TypeId} {xs : List Value} (h : Own w base e (.slice (some ⟨g, 0, none⟩) n c) xs) {k : Nat} (hk : k ≤ xs.length) : Own w base e (.slice (some ⟨g, 0, none⟩) k c) (xs.take k) := by
  obtain ⟨h1, ⟨h2, _⟩ | ⟨g', cap', cur, e', hb, hg, q1, q2, q3, q4⟩⟩ := h
  · cases h2
  · cases e'
    have hl : (xs.take k).length = k := by rw [List.length_take]; omega
    refine ⟨by rw [Nat.mul_one], Or.inr ⟨g, c, cur, by rw [hl], hb, hg, by omega, q2, q3, ?_⟩⟩
    rw [hl, Nat.mul_one]
    rw [Nat.mul_one] at q4
    rw [← q4, List.take_take]
    congr 1
    omega
/-- A store into an element. -/
theorem Own.set {w : World} {base g n c : Nat} {e : TypeId} {xs : List Value} (h : Own w base e (.slice (some ⟨g, 0, none⟩) n c) xs) (i : Nat) (u : Value) : Own (w.setCell ⟨g, i, none⟩ u) base e (.slice (some ⟨g, 0, none⟩) n c) (xs.set i u) := by
  obtain ⟨h1, ⟨h2, _⟩ | ⟨g', cap', cur, e', hb, hg, q1, q2, q3, q4⟩⟩ := h
  · cases h2
  · cases e'
    refine ⟨by rw [Nat.mul_one], Or.inr ⟨g, c, cur.setIfInBounds i u, by simp, hb, ?_, by simpa using q1, q2, by simpa using q3, ?_⟩⟩
    · exact heap_setCell_same w g i cur e u hg
    · rw [List.length_set, Nat.mul_one]
      rw [Nat.mul_one] at q4
      rw [Array.toList_setIfInBounds, List.take_set, q4]
theorem grAl {w w' : World} {o : Obj} {r : Option Nat} (h : (w.alloc o).grownBy w' r) : w.grownBy w' r :=
  ⟨h.os, h.tape, h.output, Nat.le_trans (by simp) h.size, fun i hi hr => (h.block i (by simp; omega) hr).trans (oldAt w o hi)⟩
theorem Own.nonnil {w : World} {base : Nat} {e : TypeId} {v : Value} {xs : List Value} (h : Own w base e v xs) (hx : xs ≠ []) : ∃ g n c, v = .slice (some ⟨g, 0, none⟩) n c ∧ n = xs.length ∧ n ≤ c := by
  obtain ⟨p, c, h1, h2, _, _, h3⟩ := h.shape
  obtain ⟨g, rfl⟩ := h3 hx
  exact ⟨g, _, c, h1, rfl, h2⟩
/-- append of one element, of one cell, that was laid just now. -/
theorem app1 {ops : Array Oper} {rest : List Oper} {o : Oper} {a : Act} {Q : Exit → Act → World → Prop} (w0 : World) (hgd : o.guard = none) (s x : Operand) (t e : TypeId) (i : TypeInfo) (zv : Value) (by' : Nat) (ht : Tryz.prog.underlying t = some (.slice e)) (hi : Tryz.prog.info? e = some i) (hz : i.zero = some zv) (hs1 : i.size = 1) (hby : i.bytes = by') (hzs : zv.cells.size = 1) (hb24 : by' ≤ 24)
    (ho : o.op = .call { callee := .builtin .append, args := #[s, x], argTypes := #[t, t] }) (base : Nat) (v y : Value) (xs : List Value) (hs : a.eval s = v) (hown : Own w0 base e v xs) (hy : y.oneCell' = true) (B : Nat) (hx : a.eval x = .slice (some ⟨B, 0, none⟩) 1 1) (hB : B = w0.heap.size) (hlen : xs.length < 1000000) (hbase : base ≤ w0.heap.size)
    (h : ∀ v' w', Own w' base e v' (xs ++ [y]) → w0.grownBy w' v.ownBlock → (v'.ownBlock = v.ownBlock ∨ ∀ g, v'.ownBlock = some g → w0.heap.size ≤ g) → wpList Tryz.prog ops Q rest (a.put o.dst v') w') : wpList Tryz.prog ops Q (o :: rest) a (w0.alloc (.cells #[y] e)) := by
  refine wpList_append_own_at _ hgd s x t ho base e i zv 1 by' ht hi hz hs1 hby hzs (by decide) v xs.length xs hs (hown.below ((Below.refl _ _).alloc (Nat.le_refl _) _)) ⟨w0.heap.size, 0, none⟩ 1 1 [y] (hB ▸ hx) rfl (cell_one_new _ _ _) (fun u hu => by rw [List.mem_singleton.1 hu]; exact hy) (by unfold maxLen; omega) (Nat.le_trans (Nat.mul_le_mul_left _ hb24) (by omega)) (by simp; omega) (fun v' w' h1 h2 _ h4 => h v' w' ?_ (grAl h2) ?_)
  · unfold Own
    rw [List.length_append]
    exact h1
  · rcases h4 with h4 | h4
    · exact Or.inl h4
    · exact Or.inr (fun g hg => by rw [h4] at hg; injection hg with hg; simp at hg; omega)
set_option maxRecDepth 100000 in
theorem int1 : ∃ i, Tryz.prog.info? 3 = some i ∧ i.zero = some (.int .i64 0) ∧ i.size = 1 ∧ i.bytes = 8 := ⟨_, Tryz.type3, rfl, rfl, rfl⟩
/-- append of a whole number; of a slice of numbers. -/
theorem appI {ops : Array Oper} {rest : List Oper} {o : Oper} {a : Act} {Q : Exit → Act → World → Prop} (w0 : World) (hgd : o.guard = none) (s x : Operand)
    (ho : o.op = .call { callee := .builtin .append, args := #[s, x], argTypes := #[44, 44] }) (base : Nat) (v : Value) (y : Int) (xs : List Value) (hs : a.eval s = v) (hown : Own w0 base 3 v xs) (B : Nat) (hx : a.eval x = .slice (some ⟨B, 0, none⟩) 1 1) (hB : B = w0.heap.size) (hlen : xs.length < 1000000) (hbase : base ≤ w0.heap.size)
    (h : ∀ v' w', Own w' base 3 v' (xs ++ [.int .i64 y]) → w0.grownBy w' v.ownBlock → (v'.ownBlock = v.ownBlock ∨ ∀ g, v'.ownBlock = some g → w0.heap.size ≤ g) → wpList Tryz.prog ops Q rest (a.put o.dst v') w') : wpList Tryz.prog ops Q (o :: rest) a (w0.alloc (.cells #[.int .i64 y] 3)) := by
  obtain ⟨i, h1, h2, h3, h4⟩ := int1
  exact app1 w0 hgd s x 44 3 i _ 8 Tryz.underlying44 h1 h2 h3 h4 rfl (by decide) ho base v _ xs hs hown rfl B hx hB hlen hbase h
theorem made1 (z : Value) (n : Nat) : (madeCells #[z] n).toList = List.replicate n z := by
  apply List.ext_getElem
  · simp [madeCells]
  · intro i h1 h2
    simp [madeCells, Nat.mod_one]
/-- make([]int, n). -/
theorem mkI {ops : Array Oper} {rest : List Oper} {o : Oper} {a : Act} {Q : Exit → Act → World → Prop} (w0 : World) (hgd : o.guard = none) (l c : Operand) (ho : o.op = Op.makeSlice 44 l c) (n : Nat) (hl : a.eval l = .int .i64 (n : Int)) (hc : a.eval c = .int .i64 (n : Int)) (hn : n < 1000000)
    (h : ∀ w', Own w' w0.heap.size 3 (.slice (some ⟨w0.heap.size, 0, none⟩) n n) (its (List.replicate n 0)) → w0.grownBy w' none → w0.heap.size < w'.heap.size → wpList Tryz.prog ops Q rest (a.put o.dst (.slice (some ⟨w0.heap.size, 0, none⟩) n n)) w') : wpList Tryz.prog ops Q (o :: rest) a w0 := by
  obtain ⟨i, h1, h2, h3, h4⟩ := int1
  refine wpList_make_full w0 hgd l c 44 ho w0.heap.size 3 i (.int .i64 0) 1 Tryz.underlying44 h1 h2 h3 .i64 .i64 n n n hl hc rfl rfl (by rw [h4]; omega) (by unfold maxLen; omega) (Nat.le_refl _) (fun w' hown hg => h w' ?_ hg ?_)
  · have e : (madeCells (Value.int .i64 0).cells (n * 1)).toList = its (List.replicate n 0) := by
      rw [Nat.mul_one, show (Value.int .i64 0).cells = #[.int .i64 0] from rfl, made1, its, List.map_replicate]
    rw [e] at hown
    unfold Own
    rw [its_len, List.length_replicate]
    exact hown
  · rcases hown.2 with ⟨e, _⟩ | ⟨g, cap, cur, e, _, hg', _⟩
    · cases e
    · cases e; exact heapLt hg'
/-- append of one element, as one step of a region that draws. -/
theorem step1 {ops : Array Oper} {o : Oper} {a : Act} {w : World} {K : Act → World → Prop} {Q : Exit → Act → World → Prop} {E : Prop} (hgd : o.guard = none) (s x : Operand) (t e : TypeId) (i : TypeInfo) (zv : Value) (by' : Nat) (ht : Tryz.prog.underlying t = some (.slice e)) (hi : Tryz.prog.info? e = some i) (hz : i.zero = some zv) (hs1 : i.size = 1) (hby : i.bytes = by') (hzs : zv.cells.size = 1) (hb24 : by' ≤ 24)
    (ho : o.op = .call { callee := .builtin .append, args := #[s, x], argTypes := #[t, t] }) (base : Nat) (v y : Value) (xs : List Value) (hs : a.eval s = v) (hown : Own w base e v xs) (hy : y.oneCell' = true) (B : Nat) (hx : a.eval x = .slice (some ⟨B, 0, none⟩) 1 1) (hc : w.cell? ⟨B, 0, none⟩ = some y) (hlen : xs.length < 1000000) (hbase : base ≤ w.heap.size)
    (h : ∀ v' w', Own w' base e v' (xs ++ [y]) → w.grownBy w' v.ownBlock → (v'.ownBlock = v.ownBlock ∨ ∀ g, v'.ownBlock = some g → w.heap.size ≤ g) → K (a.put o.dst v') w') : if Region.wanted o (yielded ops a.tmps) = true then Oper.wp Tryz.prog o a w K Q else E := by
  have hw : Region.wanted o (yielded ops a.tmps) = true := by simp [Region.wanted, hgd]
  rw [if_pos hw]
  obtain ⟨v', w', hr, h2, h3, _, h5⟩ := run_append_own_at (P := Tryz.prog) w base t o.type e i zv 1 by' ht hi hz hs1 hby hzs (by decide) v xs.length xs hown ⟨B, 0, none⟩ 1 1 [y] rfl (fun j u hj => by
    match j, hj with
    | 0, hj => simp at hj; subst hj; rw [addPlain]; exact hc) (fun u hu => by rw [List.mem_singleton.1 hu]; exact hy) (by unfold maxLen; omega) (Nat.le_trans (Nat.mul_le_mul_left _ hb24) (by omega)) hbase
  unfold Oper.wp execOp
  simp only [ho, resolve, invoke, builtin, Sem.run_bind, Sem.run_pure, Result.andThen_ok, List.map_toArray, List.map_cons, List.map_nil, hs, hx, hr]
  refine h v' w' ?_ h3 ?_
  · unfold Own
    rw [List.length_append]
    exact h2
  · rcases h5 with h5 | h5
    · exact Or.inl h5
    · exact Or.inr (fun g hg => by rw [h5] at hg; injection hg with hg; omega)
theorem stepI {ops : Array Oper} {o : Oper} {a : Act} {w : World} {K : Act → World → Prop} {Q : Exit → Act → World → Prop} {E : Prop} (hgd : o.guard = none) (s x : Operand)
    (ho : o.op = .call { callee := .builtin .append, args := #[s, x], argTypes := #[44, 44] }) (base : Nat) (v : Value) (y : Int) (xs : List Value) (hs : a.eval s = v) (hown : Own w base 3 v xs) (B : Nat) (hx : a.eval x = .slice (some ⟨B, 0, none⟩) 1 1) (hc : w.cell? ⟨B, 0, none⟩ = some (.int .i64 y)) (hlen : xs.length < 1000000) (hbase : base ≤ w.heap.size)
    (h : ∀ v' w', Own w' base 3 v' (xs ++ [.int .i64 y]) → w.grownBy w' v.ownBlock → (v'.ownBlock = v.ownBlock ∨ ∀ g, v'.ownBlock = some g → w.heap.size ≤ g) → K (a.put o.dst v') w') : if Region.wanted o (yielded ops a.tmps) = true then Oper.wp Tryz.prog o a w K Q else E := by
  obtain ⟨i, h1, h2, h3, h4⟩ := int1
  exact step1 hgd s x 44 3 i _ 8 Tryz.underlying44 h1 h2 h3 h4 rfl (by decide) ho base v _ xs hs hown rfl B hx hc hlen hbase h
/-- A call of a Go function, as one step of a region that draws. -/
theorem stepCall {ops : Array Oper} {o : Oper} {a : Act} {w : World} {K : Act → World → Prop} {Q : Exit → Act → World → Prop} {E : Prop} (hgd : o.guard = none) (f : FuncId) (vals : Array Value) (hrun : (execOp a.eval o).run Tryz.prog w = .ok (.enter f vals) w) {R : Ending → World → Prop} (hc : Calls Tryz.prog f vals w R)
    (h : ∀ e w', R e w' → ∃ v, e = .returned v ∧ K (a.put o.dst v) w') : if Region.wanted o (yielded ops a.tmps) = true then Oper.wp Tryz.prog o a w K Q else E := by
  have hw : Region.wanted o (yielded ops a.tmps) = true := by simp [Region.wanted, hgd]
  rw [if_pos hw]
  unfold Oper.wp
  rw [hrun]
  exact hc.mono (fun e w' hR => by obtain ⟨v, rfl, hk⟩ := h e w' hR; exact hk)
/-- Nothing below base turns by a store above. -/
theorem setBel {B : Nat} {w : World} {g : Nat} (hB : B ≤ g) (i : Nat) (u : Value) : Below B w (w.setCell ⟨g, i, none⟩ u) := (Below.refl _ _).setCell hB _
end Mm

end Go.Proofs.YtjnaafgiokdcbaaGreatDoor

/- Keys on leaves, plain. -/
namespace Go.Proofs.YtjnaafgiokdcbaaGreatDoor
namespace Lf
/-- The order of texts. -/
def lt (a b : ByteArray) : Bool := Op.bytesLess a.toList b.toList
theorem bl_eq : ∀ a b : List UInt8, Op.bytesLess a b = decide (a < b)
  | [], [] => by simp [Op.bytesLess]
  | _ :: _, [] => by simp [Op.bytesLess]
  | [], _ :: _ => by simp [Op.bytesLess]
  | a :: x, b :: y => by
    rw [Op.bytesLess, bl_eq x y, Bool.eq_iff_iff]
    simp [List.cons_lt_cons_iff]
theorem lt_eq (a b : ByteArray) : lt a b = decide (a.toList < b.toList) := bl_eq _ _
theorem toList_inj {a b : ByteArray} (h : a.toList = b.toList) : a = b := by
  rw [ByteArray.toList_eq, ByteArray.toList_eq] at h
  cases a; cases b
  congr
  exact Array.toList_inj.1 h
theorem lt_irr (a : ByteArray) : lt a a = false := by rw [lt_eq]; exact decide_eq_false (List.lt_irrefl _)
theorem lt_tr {a b c : ByteArray} (h : lt a b = true) (h2 : lt b c = true) : lt a c = true := by
  rw [lt_eq] at *
  exact decide_eq_true (List.lt_trans (of_decide_eq_true h) (of_decide_eq_true h2))
theorem lt_as {a b : ByteArray} (h : lt a b = true) : lt b a = false := by
  rw [lt_eq] at *
  exact decide_eq_false (List.lt_asymm (of_decide_eq_true h))
theorem lt_tri {a b : ByteArray} (h : lt a b = false) (h2 : lt b a = false) : a = b := by
  rw [lt_eq] at *
  exact toList_inj (List.le_antisymm (of_decide_eq_false h2) (of_decide_eq_false h))
theorem le_lt {a b c : ByteArray} (h : lt b a = false) (h2 : lt b c = true) : lt a c = true := by
  cases hh : lt a b with
  | true => exact lt_tr hh h2
  | false => rw [lt_tri hh h]; exact h2
theorem lt_le {a b c : ByteArray} (h : lt a b = true) (h2 : lt c b = false) : lt a c = true := by
  cases hh : lt b c with
  | true => exact lt_tr h hh
  | false => rw [← lt_tri hh h2]; exact h
theorem le_tr {a b c : ByteArray} (h : lt b a = false) (h2 : lt c b = false) : lt c a = false := by
  cases hh : lt c a with
  | false => rfl
  | true => rw [lt_le hh h] at h2; cases h2
theorem lt_emp (a : ByteArray) : lt a ⟨#[]⟩ = false := by
  unfold lt
  rw [ByteArray.toList_eq ⟨#[]⟩]
  cases h : a.toList <;> simp [Op.bytesLess]
theorem eqB (a b : ByteArray) : (a.toList == b.toList) = decide (a = b) := by
  by_cases h : a = b
  · subst h; simp
  · rw [decide_eq_false h, beq_eq_false_iff_ne]; exact fun e => h (toList_inj e)
theorem lt_ne {a b : ByteArray} (h : lt a b = true) : a ≠ b := fun e => by rw [e, lt_irr] at h; cases h
end Lf

end Go.Proofs.YtjnaafgiokdcbaaGreatDoor

/- Leaves, plain: their state, the leaf of a key, where it stands. -/
namespace Go.Proofs.YtjnaafgiokdcbaaGreatDoor
namespace Lf
structure Pg where
  n : Nat
  b : ByteArray
  ks : List ByteArray
structure S where
  fan : Nat
  last : Nat
  pgs : List Pg
  count : Nat
def Up (l : List ByteArray) : Prop := l.Pairwise (fun a b => lt a b = true)
structure Inv (s : S) : Prop where
  f1 : 2 ≤ s.fan
  f2 : s.fan ≤ 64
  nd : s.pgs.Pairwise (fun P Q => P.n ≠ Q.n)
  nr : ∀ P ∈ s.pgs, 1 ≤ P.n ∧ P.n ≤ s.last
  h0 : ∃ P r, s.pgs = P :: r ∧ P.b = ⟨#[]⟩
  bd : s.pgs.Pairwise (fun P Q => lt P.b Q.b = true ∧ ∀ k ∈ P.ks, lt k Q.b = true)
  ks : ∀ P ∈ s.pgs, Up P.ks ∧ (∀ k ∈ P.ks, lt k P.b = false ∧ k.size ≤ 1024) ∧ P.ks.length ≤ s.fan
  full : ∀ P ∈ s.pgs, P.ks = [] → s.pgs.length = 1
  cnt : s.count = (s.pgs.map (fun P => P.ks.length)).sum
  ln : s.pgs.length ≤ s.last
/-- A key's leaf among all. -/
structure Spl (s : S) (k : ByteArray) (L : List Pg) (P : Pg) (R : List Pg) : Prop where
  e : s.pgs = L ++ P :: R
  lo : ∀ Q ∈ L, lt k Q.b = false
  at_ : lt k P.b = false
  hi : ∀ Q ∈ R, lt k Q.b = true
theorem spl_list (k : ByteArray) : ∀ (P : Pg) (r : List Pg), lt k P.b = false → (P :: r).Pairwise (fun P Q => lt P.b Q.b = true) → ∃ L P' R, P :: r = L ++ P' :: R ∧ (∀ Q ∈ L, lt k Q.b = false) ∧ lt k P'.b = false ∧ ∀ Q ∈ R, lt k Q.b = true
  | P, [], h, _ => ⟨[], P, [], rfl, (fun _ h => nomatch h), h, (fun _ h => nomatch h)⟩
  | P, Q :: r, h, hp => by
    cases hq : lt k Q.b with
    | true =>
      refine ⟨[], P, Q :: r, rfl, (fun _ h => nomatch h), h, fun X hX => ?_⟩
      rcases List.mem_cons.1 hX with e | hX
      · rw [e]; exact hq
      · exact lt_tr hq ((List.pairwise_cons.1 (List.pairwise_cons.1 hp).2).1 X hX)
    | false =>
      obtain ⟨L, P', R, e, h1, h2, h3⟩ := spl_list k Q r hq (List.pairwise_cons.1 hp).2
      refine ⟨P :: L, P', R, by rw [e]; rfl, fun X hX => ?_, h2, h3⟩
      rcases List.mem_cons.1 hX with e | hX
      · rw [e]; exact h
      · exact h1 X hX
theorem spl_ex {s : S} (hI : Inv s) (k : ByteArray) : ∃ L P R, Spl s k L P R := by
  obtain ⟨P, r, e, hb⟩ := hI.h0
  have hp := hI.bd
  rw [e] at hp
  obtain ⟨L, P', R, e2, h1, h2, h3⟩ := spl_list k P r (by rw [hb]; exact lt_emp k) (hp.imp (fun h => h.1))
  exact ⟨L, P', R, e.trans e2, h1, h2, h3⟩
theorem Spl.uniq {s : S} {k : ByteArray} {L L' R R' : List Pg} {P P' : Pg} (h : Spl s k L P R) (h' : Spl s k L' P' R') : L = L' ∧ P = P' ∧ R = R' := by
  have e := h.e.symm.trans h'.e
  rcases List.append_eq_append_iff.1 e with ⟨a, e1, e2⟩ | ⟨a, e1, e2⟩
  · cases a with
    | nil => simp at e1 e2; exact ⟨e1.symm, e2.1, e2.2⟩
    | cons x a =>
      simp at e2
      have hm : P' ∈ R := by rw [e2.2]; simp
      have := h.hi P' hm
      rw [h'.at_] at this; cases this
  · cases a with
    | nil => simp at e1 e2; exact ⟨e1, e2.1.symm, e2.2.symm⟩
    | cons x a =>
      simp at e2
      have hm : P ∈ R' := by rw [e2.2]; simp
      have := h'.hi P hm
      rw [h.at_] at this; cases this
theorem Spl.mem {s : S} {k : ByteArray} {L R : List Pg} {P : Pg} (h : Spl s k L P R) : P ∈ s.pgs := by rw [h.e]; simp
/-- Where a key stands, or would. -/
structure Kp (ks : List ByteArray) (k : ByteArray) (A B : List ByteArray) : Prop where
  e : ks = A ++ B
  lo : ∀ a ∈ A, lt a k = true
  hi : ∀ b ∈ B, lt b k = false
theorem kp_ex : ∀ {ks : List ByteArray} (_ : Up ks) (k : ByteArray), ∃ A B, Kp ks k A B
  | [], _, k => ⟨[], [], rfl, (fun _ h => nomatch h), (fun _ h => nomatch h)⟩
  | a :: r, hu, k => by
    cases ha : lt a k with
    | true =>
      obtain ⟨A, B, h⟩ := kp_ex (ks := r) (List.pairwise_cons.1 hu).2 k
      refine ⟨a :: A, B, by rw [h.e]; rfl, fun x hx => ?_, h.hi⟩
      rcases List.mem_cons.1 hx with e | hx
      · rw [e]; exact ha
      · exact h.lo x hx
    | false =>
      refine ⟨[], a :: r, rfl, (fun _ h => nomatch h), fun x hx => ?_⟩
      rcases List.mem_cons.1 hx with e | hx
      · rw [e]; exact ha
      · cases hh : lt x k with
        | false => rfl
        | true => rw [lt_tr ((List.pairwise_cons.1 hu).1 x hx) hh] at ha; cases ha
theorem Kp.mem {ks A B : List ByteArray} {k : ByteArray} (h : Kp ks k A B) (hu : Up ks) : k ∈ ks ↔ B.head? = some k := by
  rw [h.e, List.mem_append]
  constructor
  · rintro (hm | hm)
    · have := h.lo k hm; rw [lt_irr] at this; cases this
    · cases B with
      | nil => cases hm
      | cons b r =>
        rcases List.mem_cons.1 hm with e | hm
        · rw [e]; rfl
        · have hp := hu
          unfold Up at hp
          rw [h.e] at hp
          have h2 := (List.pairwise_cons.1 (List.pairwise_append.1 hp).2.1).1 k hm
          rw [h.hi b (by simp)] at h2; cases h2
  · intro hb
    cases B with
    | nil => cases hb
    | cons b r => simp at hb; subst hb; exact Or.inr (by simp)
theorem Kp.uniq {ks A B A' B' : List ByteArray} {k : ByteArray} (h : Kp ks k A B) (h' : Kp ks k A' B') : A = A' ∧ B = B' := by
  have e := h.e.symm.trans h'.e
  rcases List.append_eq_append_iff.1 e with ⟨a, e1, e2⟩ | ⟨a, e1, e2⟩
  · cases a with
    | nil => simp at e1 e2; exact ⟨e1.symm, e2⟩
    | cons x a =>
      have h1 := h.hi x (by rw [e2]; simp)
      have h2 := h'.lo x (by rw [e1]; simp)
      rw [h1] at h2; cases h2
  · cases a with
    | nil => simp at e1 e2; exact ⟨e1, e2.symm⟩
    | cons x a =>
      have h1 := h'.hi x (by rw [e2]; simp)
      have h2 := h.lo x (by rw [e1]; simp)
      rw [h1] at h2; cases h2
def half (l : List ByteArray) : Nat := (l.length + 1) / 2
def lower (P : Pg) : Pg := { P with ks := P.ks.take (half P.ks) }
def upper (s : S) (P : Pg) : Pg := ⟨s.last + 1, P.ks.getD (half P.ks) ⟨#[]⟩, P.ks.drop (half P.ks)⟩
def partS (s : S) (L : List Pg) (P : Pg) (R : List Pg) : S := if P.ks.length ≤ s.fan then s else { s with last := s.last + 1, pgs := L ++ lower P :: upper s P :: R }
def partM (s : S) (P : Pg) : Nat × Nat := if P.ks.length ≤ s.fan then (0, 0) else (P.n, s.last + 1)
def open1 : List Pg → List Pg
  | [] => []
  | Q :: r => { Q with b := ⟨#[]⟩ } :: r
def joinS (s : S) (L : List Pg) (P : Pg) (R : List Pg) : S := if P.ks ≠ [] ∨ L ++ R = [] then s else { s with pgs := open1 (L ++ R) }
/-- The leaf beside. -/
def beside (L R : List Pg) : Nat := match L.getLast?, R with
  | some Q, _ => Q.n
  | none, Q :: _ => Q.n
  | none, [] => 0
def joinM (L : List Pg) (P : Pg) (R : List Pg) : Nat × Nat := if P.ks ≠ [] ∨ L ++ R = [] then (0, 0) else (P.n, beside L R)
/-- A leaf's keys anew. -/
def withKs (P : Pg) (ks : List ByteArray) : Pg := { P with ks := ks }
def insP (s : S) (L : List Pg) (P : Pg) (R : List Pg) (ks : List ByteArray) : S := { s with pgs := L ++ withKs P ks :: R, count := s.count + 1 }
def remP (s : S) (L : List Pg) (P : Pg) (R : List Pg) (ks : List ByteArray) : S := { s with pgs := L ++ withKs P ks :: R, count := s.count - 1 }
def insS (s : S) (L : List Pg) (P : Pg) (R : List Pg) (ks : List ByteArray) : S := partS (insP s L P R ks) L (withKs P ks) R
def remS (s : S) (L : List Pg) (P : Pg) (R : List Pg) (ks : List ByteArray) : S := joinS (remP s L P R ks) L (withKs P ks) R
end Lf

end Go.Proofs.YtjnaafgiokdcbaaGreatDoor
