/- Values and rows of them in memory. -/
import Derived.Test.YtoobljkjhpkghaaCa6
import Derived.Laws.CopyRow
import Derived.OwnWalk
import Derived.Lib.UnsafeStr
import Derived.Lib.Walk
namespace Go.Proofs.Ytoobljkjhpkghaa
open Go.RowKit

namespace Vl
structure V where
  k : Int
  n : Int
  f : Nat
  s : ByteArray
def V.cs (v : V) : Array Value := #[.int .i64 v.k, .int .i64 v.n, .float .f64 v.f, .string v.s]
theorem hid {p : Prop} (h : p) : Hid p := h
theorem bcell {W w1 : World} (hb : Below W.heap.size W w1) : (∀ b o, b < W.heap.size → w1.cell? ⟨b, o, none⟩ = W.cell? ⟨b, o, none⟩) ∧ (∀ b o, b < W.heap.size → w1.frozen? ⟨b, o, none⟩ = W.frozen? ⟨b, o, none⟩) :=
  ⟨fun b o h => hb.cell (p := ⟨b, o, none⟩) h, fun b o h => hb.frozen (p := ⟨b, o, none⟩) h⟩
theorem bal {w w1 : World} (h : Below w.heap.size w w1) (o : Obj) : Below w.heap.size w (w1.alloc o) := h.alloc h.size o
theorem btr {w w1 w2 : World} (h : Below w.heap.size w w1) (h2 : Below w1.heap.size w1 w2) : Below w.heap.size w w2 := h.trans (h2.mono h.size)
theorem add_plain (b o j : Nat) : (⟨b, o, none⟩ : Addr).add j = ⟨b, o + j, none⟩ := by
  unfold Addr.add
  split
  · rename_i h; subst h; rfl
  · rfl
structure V4 (w : World) (b o : Nat) (v : V) : Prop where
  lt : b < w.heap.size
  c0 : w.cell? ⟨b, o, none⟩ = some (.int .i64 v.k)
  c1 : w.cell? ⟨b, o + 1, none⟩ = some (.int .i64 v.n)
  c2 : w.cell? ⟨b, o + 2, none⟩ = some (.float .f64 v.f)
  c3 : w.cell? ⟨b, o + 3, none⟩ = some (.string v.s)
theorem V4.below {w w1 : World} {b o : Nat} {v : V} (h : V4 w b o v) (hb : Below w.heap.size w w1) : V4 w1 b o v :=
  have hm := (bcell hb).1
  ⟨Nat.lt_of_lt_of_le h.lt hb.size, (hm _ _ h.lt).trans h.c0, (hm _ _ h.lt).trans h.c1, (hm _ _ h.lt).trans h.c2, (hm _ _ h.lt).trans h.c3⟩
theorem V4.al {w : World} {b o : Nat} {v : V} (h : V4 w b o v) (x : Obj) : V4 (w.alloc x) b o v := h.below (bal (Below.refl _ _) x)
theorem V4.drew {w : World} {b o : Nat} {v : V} (h : V4 w b o v) : V4 w.drew b o v := ⟨h.lt, h.c0, h.c1, h.c2, h.c3⟩
theorem new_at (w : World) (x : Obj) : (w.alloc x).heap[w.heap.size]? = some x := by show (w.heap.push x)[w.heap.size]? = _; simp
theorem heap_lt {w : World} {b : Nat} {x : Obj} (h : w.heap[b]? = some x) : b < w.heap.size := by
  rcases Nat.lt_or_ge b w.heap.size with c | c
  · exact c
  · rw [Array.getElem?_eq_none c] at h; cases h
theorem V4.of {w : World} {b : Nat} {v : V} {t : TypeId} {fr : Nat × Nat} (h : w.heap[b]? = some (.cells #[.int .i64 v.k, .int .i64 v.n, .float .f64 v.f, .string v.s] t fr)) : V4 w b 0 v := by
  refine ⟨heap_lt h, ?_, ?_, ?_, ?_⟩ <;> simp [World.cell?, h]
theorem V4.made {w : World} (v : V) (t : TypeId) {n : Nat} (h : n = w.heap.size) : V4 (w.alloc (.cells #[.int .i64 v.k, .int .i64 v.n, .float .f64 v.f, .string v.s] t)) n 0 v := by
  subst h
  exact V4.of (new_at w _)
theorem V4.box {w : World} {b : Nat} {v : V} (h : V4 w b 0 v) : w.cell? ⟨b, 0, none⟩ = some (.int .i64 v.k) ∧ w.cell? ⟨b, 1, none⟩ = some (.int .i64 v.n) ∧ w.cell? ⟨b, 2, none⟩ = some (.float .f64 v.f) ∧ w.cell? ⟨b, 3, none⟩ = some (.string v.s) := ⟨h.c0, h.c1, h.c2, h.c3⟩
def Lies (w : World) (p : Option Addr) (cs : List Value) : Prop := cs.length = 0 ∨ ∃ b o, p = some ⟨b, o, none⟩ ∧ b < w.heap.size ∧ ∀ (j : Nat) (u : Value), cs[j]? = some u → w.cell? ⟨b, o + j, none⟩ = some u
theorem Lies.below {w w1 : World} {p : Option Addr} {cs : List Value} (h : Lies w p cs) (hB : Below w.heap.size w w1) : Lies w1 p cs := by
  rcases h with h | ⟨b, o, h1, h2, h3⟩
  · exact Or.inl h
  · exact Or.inr ⟨b, o, h1, Nat.lt_of_lt_of_le h2 hB.size, fun j u hu => ((bcell hB).1 _ _ h2).trans (h3 j u hu)⟩
theorem Lies.drew {w : World} {p : Option Addr} {cs : List Value} (h : Lies w p cs) : Lies w.drew p cs := h
def cellsV : List V → List Value
  | [] => []
  | v :: l => .int .i64 v.k :: .int .i64 v.n :: .float .f64 v.f :: .string v.s :: cellsV l
theorem cellsV_length : ∀ l, (cellsV l).length = l.length * 4
  | [] => rfl
  | _ :: l => by simp [cellsV, cellsV_length l]; omega
theorem cellsV_app : ∀ (a b : List V), cellsV (a ++ b) = cellsV a ++ cellsV b
  | [], _ => rfl
  | x :: a, b => by simp [cellsV, cellsV_app a b]
theorem cellsV_one : ∀ l, ∀ v ∈ cellsV l, v.oneCell' = true
  | [], _, h => by cases h
  | _ :: l, v, h => by
    simp only [cellsV, List.mem_cons] at h
    rcases h with rfl | rfl | rfl | rfl | h
    · rfl
    · rfl
    · rfl
    · rfl
    · exact cellsV_one l v h
theorem cellsV_at : ∀ (l : List V) (j : Nat) (v : V), l[j]? = some v → (cellsV l)[j * 4]? = some (.int .i64 v.k) ∧ (cellsV l)[j * 4 + 1]? = some (.int .i64 v.n) ∧ (cellsV l)[j * 4 + 2]? = some (.float .f64 v.f) ∧ (cellsV l)[j * 4 + 3]? = some (.string v.s)
  | [], j, v, h => by simp at h
  | x :: l, 0, v, h => by simp at h; subst h; simp [cellsV]
  | x :: l, j + 1, v, h => by
    have ih := cellsV_at l j v (by simpa using h)
    rw [show (j + 1) * 4 = j * 4 + 4 from by omega, show j * 4 + 4 + 1 = (j * 4 + 1) + 4 from by omega, show j * 4 + 4 + 2 = (j * 4 + 2) + 4 from by omega, show j * 4 + 4 + 3 = (j * 4 + 3) + 4 from by omega]
    simpa [cellsV] using ih
def RowIn (w : World) (p : Option Addr) (xs : List V) : Prop := Lies w p (cellsV xs)
theorem RowIn.below {w w1 : World} {p : Option Addr} {xs : List V} (h : RowIn w p xs) (hB : Below w.heap.size w w1) : RowIn w1 p xs := Lies.below h hB
theorem RowIn.al {w : World} {p : Option Addr} {xs : List V} (h : RowIn w p xs) (o : Obj) : RowIn (w.alloc o) p xs := h.below (bal (Below.refl _ _) o)
theorem RowIn.none (w : World) (p : Option Addr) : RowIn w p [] := Or.inl rfl
theorem RowIn.at {w : World} {p : Option Addr} {xs : List V} {k : Nat} {v : V} (h : RowIn w p xs) (hv : xs[k]? = some v) : ∃ b o, p = some ⟨b, o, .none⟩ ∧ V4 w b (o + k * 4) v := by
  obtain ⟨c0, c1, c2, c3⟩ := cellsV_at xs k v hv
  rcases h with h | ⟨b, o, h1, h2, h3⟩
  · rw [List.length_eq_zero_iff.1 h] at c0; simp at c0
  · exact ⟨b, o, h1, h2, h3 _ _ c0, by rw [Nat.add_assoc]; exact h3 _ _ c1, by rw [Nat.add_assoc]; exact h3 _ _ c2, by rw [Nat.add_assoc]; exact h3 _ _ c3⟩
theorem lies_own {w : World} {base n size : Nat} {e : TypeId} {v : Value} {cs : List Value} (h : w.ownsRow base e size v n cs) : ∃ p c, v = .slice p n c ∧ n ≤ c ∧ Lies w p cs := by
  obtain ⟨h0, ⟨e1, e2⟩ | ⟨g, cap, cur, e1, e2, e3, e4, e5, e6, e7⟩⟩ := h
  · subst e2
    exact ⟨none, 0, e1, Nat.le_refl _, Or.inl (by omega)⟩
  · have hl : g < w.heap.size := by
      rcases Nat.lt_or_ge g w.heap.size with c | c
      · exact c
      · rw [Array.getElem?_eq_none c] at e3; cases e3
    refine ⟨_, cap, e1, e4, Or.inr ⟨g, 0, rfl, hl, fun j u hu => ?_⟩⟩
    have hj : j < n * size := by rw [← h0]; exact (List.getElem?_eq_some_iff.1 hu).1
    rw [Nat.zero_add]
    rw [← e7, List.getElem?_take_of_lt hj] at hu
    simpa [World.cell?, e3] using hu
theorem own_below {w w2 : World} {base size n : Nat} {e : TypeId} {v : Value} {xs : List Value} (h : w.ownsRow base e size v n xs) (hb : Below w.heap.size w w2) : w2.ownsRow base e size v n xs := by
  obtain ⟨h0, h1 | ⟨g, cap, cur, e1, e2, e3, e4⟩⟩ := h
  · exact ⟨h0, Or.inl h1⟩
  · have hl : g < w.heap.size := by
      rcases Nat.lt_or_ge g w.heap.size with c | c
      · exact c
      · rw [Array.getElem?_eq_none c] at e3; cases e3
    exact ⟨h0, Or.inr ⟨g, cap, cur, e1, e2, by rw [hb.block g hl]; exact e3, e4⟩⟩
theorem cellsV_from : ∀ (l : List V) (j : Nat) (c : Value), (cellsV l)[j]? = some c → ∃ i v, l[i]? = some v ∧ ((j = i * 4 ∧ c = .int .i64 v.k) ∨ (j = i * 4 + 1 ∧ c = .int .i64 v.n) ∨ (j = i * 4 + 2 ∧ c = .float .f64 v.f) ∨ (j = i * 4 + 3 ∧ c = .string v.s))
  | [], j, c, h => by simp [cellsV] at h
  | x :: l, 0, c, h => ⟨0, x, rfl, by simp [cellsV] at h; simp [h]⟩
  | x :: l, 1, c, h => ⟨0, x, rfl, by simp [cellsV] at h; simp [h]⟩
  | x :: l, 2, c, h => ⟨0, x, rfl, by simp [cellsV] at h; simp [h]⟩
  | x :: l, 3, c, h => ⟨0, x, rfl, by simp [cellsV] at h; simp [h]⟩
  | x :: l, j + 4, c, h => by
    obtain ⟨i, v, h1, h2⟩ := cellsV_from l j c (by simpa [cellsV] using h)
    refine ⟨i + 1, v, by simpa using h1, ?_⟩
    rcases h2 with h2 | h2 | h2 | h2
    · exact Or.inl ⟨by omega, h2.2⟩
    · exact Or.inr (Or.inl ⟨by omega, h2.2⟩)
    · exact Or.inr (Or.inr (Or.inl ⟨by omega, h2.2⟩))
    · exact Or.inr (Or.inr (Or.inr ⟨by omega, h2.2⟩))
theorem bdrewN {w w1 : World} (h : Below w.heap.size w w1) (n : Nat) : Below w.heap.size w (w1.drewN n) := ⟨h.os, h.tape, h.output, h.size, h.block⟩
end Vl

/-- append, whether what is behind it lies anywhere or nowhere. -/
theorem Vl.append_any {P : Program} {w : World} {ops : Array Oper} {rest : List Oper} {o : Oper} {a : Act} {Q : Exit → Act → World → Prop} (hgd : o.guard = none) (s x : Operand) (t : TypeId)
    (ho : o.op = .call { callee := .builtin .append, args := #[s, x], argTypes := #[t, t] })
    (base : Nat) (e : TypeId) (i : TypeInfo) (z : Value) (size bytes : Nat) (ht : P.underlying t = some (.slice e)) (hi : P.info? e = some i) (hz : i.zero = some z)
    (hsize : i.size = size) (hby : i.bytes = bytes) (hzs : z.cells.size = size) (hsz : 0 < size)
    (v : Value) (n : Nat) (xs : List Value) (hs : a.eval s = v) (hown : w.ownsRow base e size v n xs)
    (p : Option Addr) (m c : Nat) (news : List Value) (hx : a.eval x = .slice p m c) (hnil : p = none → m = 0 ∧ c = 0) (hl : news.length = m * size) (hnews : Vl.Lies w p news) (h1 : ∀ u ∈ news, u.oneCell' = true)
    (h63 : n + m ≤ maxLen) (hbytes : (n + m) * bytes ≤ 140737488355328) (hbase : base ≤ w.heap.size)
    (h : ∀ v' w', w'.ownsRow base e size v' (n + m) (xs ++ news) → w.grownBy w' v.ownBlock → wpList P ops Q rest (a.put o.dst v') w') : wpList P ops Q (o :: rest) a w := by
  cases p with
  | none =>
    obtain ⟨rfl, rfl⟩ := hnil rfl
    obtain rfl : news = [] := List.length_eq_zero_iff.1 (by omega)
    exact wpList_append_own_none hgd s x t ho base e i size ht hi v n xs hs hown hx (h v w (by simpa using hown) ⟨rfl, rfl, rfl, Nat.le_refl _, fun _ _ _ => rfl⟩)
  | some ad =>
    refine wpList_append_own w hgd s x t ho base e i z size bytes ht hi hz hsize hby hzs hsz v n xs hs hown ad m c news hx hl (fun j u hu => ?_) h1 h63 hbytes hbase (fun v' w' a1 a2 _ => h v' w' a1 a2)
    rcases hnews with h0 | ⟨b, o', e1, _, e3⟩
    · rw [List.length_eq_zero_iff.1 h0] at hu; simp at hu
    · cases e1
      rw [Vl.add_plain]
      exact e3 j u hu
end Go.Proofs.Ytoobljkjhpkghaa
