/- Values, columns and rows of them in memory. -/
import Derived.Test.YtaclkmhgbmencaaG0
import Derived.Test.YtaclkmhgbmencaaB0
import Derived.Laws.CopyRow
import Derived.Laws.AppendOwnNone
import Derived.OwnWalk
namespace Go.Proofs.Ytaclkmhgbmencaa
open Go.RowKit
namespace Vl

/-- A value lies at a place. -/
structure V4 (w : World) (b o : Nat) (v : V) : Prop where
  lt : b < w.heap.size
  c0 : w.cell? ⟨b, o, none⟩ = some (.int .i64 v.k)
  c1 : w.cell? ⟨b, o + 1, none⟩ = some (.int .i64 v.n)
  c2 : w.cell? ⟨b, o + 2, none⟩ = some (.float .f64 v.f)
  c3 : w.cell? ⟨b, o + 3, none⟩ = some (.string v.s)
/-- A column lies at a place. -/
structure C7 (w : World) (b o : Nat) (c : Col) : Prop where
  lt : b < w.heap.size
  c0 : w.cell? ⟨b, o, none⟩ = some (.string c.nm)
  c1 : w.cell? ⟨b, o + 1, none⟩ = some (.int .i64 c.k)
  c2 : w.cell? ⟨b, o + 2, none⟩ = some (.bool c.nn)
  c3 : w.cell? ⟨b, o + 3, none⟩ = some (.int .i64 c.d.k)
  c4 : w.cell? ⟨b, o + 4, none⟩ = some (.int .i64 c.d.n)
  c5 : w.cell? ⟨b, o + 5, none⟩ = some (.float .f64 c.d.f)
  c6 : w.cell? ⟨b, o + 6, none⟩ = some (.string c.d.s)
theorem V4.below {w w1 : World} {b o : Nat} {v : V} (h : V4 w b o v) (hb : Below w.heap.size w w1) : V4 w1 b o v :=
  have hm := (bcell hb).1
  ⟨Nat.lt_of_lt_of_le h.lt hb.size, (hm _ _ h.lt).trans h.c0, (hm _ _ h.lt).trans h.c1, (hm _ _ h.lt).trans h.c2, (hm _ _ h.lt).trans h.c3⟩
theorem C7.below {w w1 : World} {b o : Nat} {c : Col} (h : C7 w b o c) (hb : Below w.heap.size w w1) : C7 w1 b o c :=
  have hm := (bcell hb).1
  ⟨Nat.lt_of_lt_of_le h.lt hb.size, (hm _ _ h.lt).trans h.c0, (hm _ _ h.lt).trans h.c1, (hm _ _ h.lt).trans h.c2, (hm _ _ h.lt).trans h.c3, (hm _ _ h.lt).trans h.c4, (hm _ _ h.lt).trans h.c5, (hm _ _ h.lt).trans h.c6⟩
theorem V4.al {w : World} {b o : Nat} {v : V} (h : V4 w b o v) (x : Obj) : V4 (w.alloc x) b o v := h.below (bal (Below.refl _ _) x)
theorem C7.al {w : World} {b o : Nat} {c : Col} (h : C7 w b o c) (x : Obj) : C7 (w.alloc x) b o c := h.below (bal (Below.refl _ _) x)
theorem V4.drew {w : World} {b o : Nat} {v : V} (h : V4 w b o v) : V4 w.drew b o v := ⟨h.lt, h.c0, h.c1, h.c2, h.c3⟩
theorem C7.drew {w : World} {b o : Nat} {c : Col} (h : C7 w b o c) : C7 w.drew b o c := ⟨h.lt, h.c0, h.c1, h.c2, h.c3, h.c4, h.c5, h.c6⟩
theorem new_at (w : World) (x : Obj) : (w.alloc x).heap[w.heap.size]? = some x := by show (w.heap.push x)[w.heap.size]? = _; simp
theorem heap_lt {w : World} {b : Nat} {x : Obj} (h : w.heap[b]? = some x) : b < w.heap.size := by
  rcases Nat.lt_or_ge b w.heap.size with c | c
  · exact c
  · rw [Array.getElem?_eq_none c] at h; cases h
theorem V4.of {w : World} {b : Nat} {v : V} {t : TypeId} {fr : Nat × Nat} (h : w.heap[b]? = some (.cells #[.int .i64 v.k, .int .i64 v.n, .float .f64 v.f, .string v.s] t fr)) : V4 w b 0 v := by
  refine ⟨heap_lt h, ?_, ?_, ?_, ?_⟩ <;> simp [World.cell?, h]
theorem C7.of {w : World} {b : Nat} {c : Col} {t : TypeId} {fr : Nat × Nat} (h : w.heap[b]? = some (.cells #[.string c.nm, .int .i64 c.k, .bool c.nn, .int .i64 c.d.k, .int .i64 c.d.n, .float .f64 c.d.f, .string c.d.s] t fr)) : C7 w b 0 c := by
  refine ⟨heap_lt h, ?_, ?_, ?_, ?_, ?_, ?_, ?_⟩ <;> simp [World.cell?, h]
theorem V4.made {w : World} (v : V) (t : TypeId) {n : Nat} (h : n = w.heap.size) : V4 (w.alloc (.cells #[.int .i64 v.k, .int .i64 v.n, .float .f64 v.f, .string v.s] t)) n 0 v := by
  subst h
  exact V4.of (new_at w _)
theorem C7.made {w : World} (c : Col) (t : TypeId) {n : Nat} (h : n = w.heap.size) : C7 (w.alloc (.cells #[.string c.nm, .int .i64 c.k, .bool c.nn, .int .i64 c.d.k, .int .i64 c.d.n, .float .f64 c.d.f, .string c.d.s] t)) n 0 c := by
  subst h
  exact C7.of (new_at w _)
theorem V4.box {w : World} {b : Nat} {v : V} (h : V4 w b 0 v) : w.cell? ⟨b, 0, none⟩ = some (.int .i64 v.k) ∧ w.cell? ⟨b, 1, none⟩ = some (.int .i64 v.n) ∧ w.cell? ⟨b, 2, none⟩ = some (.float .f64 v.f) ∧ w.cell? ⟨b, 3, none⟩ = some (.string v.s) := ⟨h.c0, h.c1, h.c2, h.c3⟩
theorem C7.box {w : World} {b : Nat} {c : Col} (h : C7 w b 0 c) : w.cell? ⟨b, 0, none⟩ = some (.string c.nm) ∧ w.cell? ⟨b, 1, none⟩ = some (.int .i64 c.k) ∧ w.cell? ⟨b, 2, none⟩ = some (.bool c.nn) ∧ w.cell? ⟨b, 3, none⟩ = some (.int .i64 c.d.k) ∧ w.cell? ⟨b, 4, none⟩ = some (.int .i64 c.d.n) ∧ w.cell? ⟨b, 5, none⟩ = some (.float .f64 c.d.f) ∧ w.cell? ⟨b, 6, none⟩ = some (.string c.d.s) := ⟨h.c0, h.c1, h.c2, h.c3, h.c4, h.c5, h.c6⟩

/-- Cells that lie where a slice says: of none it may lie nowhere. -/
def Lies (w : World) (p : Option Addr) (cs : List Value) : Prop := cs.length = 0 ∨ ∃ b o, p = some ⟨b, o, none⟩ ∧ b < w.heap.size ∧ ∀ (j : Nat) (u : Value), cs[j]? = some u → w.cell? ⟨b, o + j, none⟩ = some u
theorem Lies.below {w w1 : World} {p : Option Addr} {cs : List Value} (h : Lies w p cs) (hB : Below w.heap.size w w1) : Lies w1 p cs := by
  rcases h with h | ⟨b, o, h1, h2, h3⟩
  · exact Or.inl h
  · exact Or.inr ⟨b, o, h1, Nat.lt_of_lt_of_le h2 hB.size, fun j u hu => ((bcell hB).1 _ _ h2).trans (h3 j u hu)⟩
theorem Lies.drew {w : World} {p : Option Addr} {cs : List Value} (h : Lies w p cs) : Lies w.drew p cs := h
/-- The cells of values, of columns. -/
def cellsV : List V → List Value
  | [] => []
  | v :: l => .int .i64 v.k :: .int .i64 v.n :: .float .f64 v.f :: .string v.s :: cellsV l
def cellsC : List Col → List Value
  | [] => []
  | c :: l => .string c.nm :: .int .i64 c.k :: .bool c.nn :: .int .i64 c.d.k :: .int .i64 c.d.n :: .float .f64 c.d.f :: .string c.d.s :: cellsC l
theorem cellsV_length : ∀ l, (cellsV l).length = l.length * 4
  | [] => rfl
  | _ :: l => by simp [cellsV, cellsV_length l]; omega
theorem cellsC_length : ∀ l, (cellsC l).length = l.length * 7
  | [] => rfl
  | _ :: l => by simp [cellsC, cellsC_length l]; omega
theorem cellsV_app : ∀ (a b : List V), cellsV (a ++ b) = cellsV a ++ cellsV b
  | [], _ => rfl
  | x :: a, b => by simp [cellsV, cellsV_app a b]
theorem cellsC_app : ∀ (a b : List Col), cellsC (a ++ b) = cellsC a ++ cellsC b
  | [], _ => rfl
  | x :: a, b => by simp [cellsC, cellsC_app a b]
theorem cellsV_one : ∀ l, ∀ v ∈ cellsV l, v.oneCell' = true
  | [], _, h => by cases h
  | _ :: l, v, h => by
    simp only [cellsV, List.mem_cons] at h
    rcases h with rfl | rfl | rfl | rfl | h
    · rfl
    · rfl
    · rfl
    · rfl
    · exact cellsV_one l v h
theorem cellsC_one : ∀ l, ∀ v ∈ cellsC l, v.oneCell' = true
  | [], _, h => by cases h
  | _ :: l, v, h => by
    simp only [cellsC, List.mem_cons] at h
    rcases h with rfl | rfl | rfl | rfl | rfl | rfl | rfl | h
    · rfl
    · rfl
    · rfl
    · rfl
    · rfl
    · rfl
    · rfl
    · exact cellsC_one l v h
theorem cellsV_at : ∀ (l : List V) (j : Nat) (v : V), l[j]? = some v → (cellsV l)[j * 4]? = some (.int .i64 v.k) ∧ (cellsV l)[j * 4 + 1]? = some (.int .i64 v.n) ∧ (cellsV l)[j * 4 + 2]? = some (.float .f64 v.f) ∧ (cellsV l)[j * 4 + 3]? = some (.string v.s)
  | [], j, v, h => by simp at h
  | x :: l, 0, v, h => by simp at h; subst h; simp [cellsV]
  | x :: l, j + 1, v, h => by
    have ih := cellsV_at l j v (by simpa using h)
    rw [show (j + 1) * 4 = j * 4 + 4 from by omega, show j * 4 + 4 + 1 = (j * 4 + 1) + 4 from by omega, show j * 4 + 4 + 2 = (j * 4 + 2) + 4 from by omega, show j * 4 + 4 + 3 = (j * 4 + 3) + 4 from by omega]
    simpa [cellsV] using ih
theorem cellsC_at : ∀ (l : List Col) (j : Nat) (c : Col), l[j]? = some c → (cellsC l)[j * 7]? = some (.string c.nm) ∧ (cellsC l)[j * 7 + 1]? = some (.int .i64 c.k) ∧ (cellsC l)[j * 7 + 2]? = some (.bool c.nn) ∧ (cellsC l)[j * 7 + 3]? = some (.int .i64 c.d.k) ∧ (cellsC l)[j * 7 + 4]? = some (.int .i64 c.d.n) ∧ (cellsC l)[j * 7 + 5]? = some (.float .f64 c.d.f) ∧ (cellsC l)[j * 7 + 6]? = some (.string c.d.s)
  | [], j, v, h => by simp at h
  | x :: l, 0, v, h => by simp at h; subst h; simp [cellsC]
  | x :: l, j + 1, v, h => by
    have ih := cellsC_at l j v (by simpa using h)
    rw [show (j + 1) * 7 = j * 7 + 7 from by omega, show j * 7 + 7 + 1 = (j * 7 + 1) + 7 from by omega, show j * 7 + 7 + 2 = (j * 7 + 2) + 7 from by omega, show j * 7 + 7 + 3 = (j * 7 + 3) + 7 from by omega, show j * 7 + 7 + 4 = (j * 7 + 4) + 7 from by omega, show j * 7 + 7 + 5 = (j * 7 + 5) + 7 from by omega, show j * 7 + 7 + 6 = (j * 7 + 6) + 7 from by omega]
    simpa [cellsC] using ih
/-- Rows of values, of columns, by their slices. -/
def RowIn (w : World) (p : Option Addr) (xs : List V) : Prop := Lies w p (cellsV xs)
def ColIn (w : World) (p : Option Addr) (cs : List Col) : Prop := Lies w p (cellsC cs)
theorem RowIn.below {w w1 : World} {p : Option Addr} {xs : List V} (h : RowIn w p xs) (hB : Below w.heap.size w w1) : RowIn w1 p xs := Lies.below h hB
theorem ColIn.below {w w1 : World} {p : Option Addr} {cs : List Col} (h : ColIn w p cs) (hB : Below w.heap.size w w1) : ColIn w1 p cs := Lies.below h hB
theorem RowIn.al {w : World} {p : Option Addr} {xs : List V} (h : RowIn w p xs) (o : Obj) : RowIn (w.alloc o) p xs := h.below (bal (Below.refl _ _) o)
theorem ColIn.al {w : World} {p : Option Addr} {cs : List Col} (h : ColIn w p cs) (o : Obj) : ColIn (w.alloc o) p cs := h.below (bal (Below.refl _ _) o)
theorem RowIn.none (w : World) (p : Option Addr) : RowIn w p [] := Or.inl rfl
theorem ColIn.none (w : World) (p : Option Addr) : ColIn w p [] := Or.inl rfl
/-- One value of a row, one column of columns. -/
theorem RowIn.at {w : World} {p : Option Addr} {xs : List V} {k : Nat} {v : V} (h : RowIn w p xs) (hv : xs[k]? = some v) : ∃ b o, p = some ⟨b, o, .none⟩ ∧ V4 w b (o + k * 4) v := by
  obtain ⟨c0, c1, c2, c3⟩ := cellsV_at xs k v hv
  rcases h with h | ⟨b, o, h1, h2, h3⟩
  · rw [List.length_eq_zero_iff.1 h] at c0; simp at c0
  · exact ⟨b, o, h1, h2, h3 _ _ c0, by rw [Nat.add_assoc]; exact h3 _ _ c1, by rw [Nat.add_assoc]; exact h3 _ _ c2, by rw [Nat.add_assoc]; exact h3 _ _ c3⟩
theorem ColIn.at {w : World} {p : Option Addr} {cs : List Col} {k : Nat} {c : Col} (h : ColIn w p cs) (hv : cs[k]? = some c) : ∃ b o, p = some ⟨b, o, .none⟩ ∧ C7 w b (o + k * 7) c := by
  obtain ⟨c0, c1, c2, c3, c4, c5, c6⟩ := cellsC_at cs k c hv
  rcases h with h | ⟨b, o, h1, h2, h3⟩
  · rw [List.length_eq_zero_iff.1 h] at c0; simp at c0
  · exact ⟨b, o, h1, h2, h3 _ _ c0, by rw [Nat.add_assoc]; exact h3 _ _ c1, by rw [Nat.add_assoc]; exact h3 _ _ c2, by rw [Nat.add_assoc]; exact h3 _ _ c3, by rw [Nat.add_assoc]; exact h3 _ _ c4, by rw [Nat.add_assoc]; exact h3 _ _ c5, by rw [Nat.add_assoc]; exact h3 _ _ c6⟩
theorem lies_own {w : World} {base n size : Nat} {e : TypeId} {v : Value} {cs : List Value} (h : w.ownsRow base e size v n cs) : ∃ p c, v = .slice p n c ∧ n ≤ c ∧ Lies w p cs := by
  obtain ⟨h0, ⟨e1, e2⟩ | ⟨g, cap, cur, e1, e2, e3, e4, e5, e6, e7⟩⟩ := h
  · subst e2
    exact ⟨none, 0, e1, Nat.le_refl _, Or.inl (by omega)⟩
  · have hl : g < w.heap.size := by
      rcases Nat.lt_or_ge g w.heap.size with c | c
      · exact c
      · rw [Array.getElem?_eq_none c] at e3; cases e3
    refine ⟨_, cap, e1, e4, Or.inr ⟨g, 0, rfl, hl, fun j u hu => ?_⟩⟩
    have hj : j < n * size := by rw [← h0]; exact (List.getElem?_eq_some_iff.1 hu).1
    rw [Nat.zero_add]
    rw [← e7, List.getElem?_take_of_lt hj] at hu
    simpa [World.cell?, e3] using hu
theorem own_below {w w2 : World} {base size n : Nat} {e : TypeId} {v : Value} {xs : List Value} (h : w.ownsRow base e size v n xs) (hb : Below w.heap.size w w2) : w2.ownsRow base e size v n xs := by
  obtain ⟨h0, h1 | ⟨g, cap, cur, e1, e2, e3, e4⟩⟩ := h
  · exact ⟨h0, Or.inl h1⟩
  · have hl : g < w.heap.size := by
      rcases Nat.lt_or_ge g w.heap.size with c | c
      · exact c
      · rw [Array.getElem?_eq_none c] at e3; cases e3
    exact ⟨h0, Or.inr ⟨g, cap, cur, e1, e2, by rw [hb.block g hl]; exact e3, e4⟩⟩
end Vl

/-- append, whether what is behind it lies anywhere or nowhere. -/
theorem Vl.append_any {P : Program} {w : World} {ops : Array Oper} {rest : List Oper} {o : Oper} {a : Act} {Q : Exit → Act → World → Prop} (hgd : o.guard = none) (s x : Operand) (t : TypeId)
    (ho : o.op = .call { callee := .builtin .append, args := #[s, x], argTypes := #[t, t] })
    (base : Nat) (e : TypeId) (i : TypeInfo) (z : Value) (size bytes : Nat) (ht : P.underlying t = some (.slice e)) (hi : P.info? e = some i) (hz : i.zero = some z)
    (hsize : i.size = size) (hby : i.bytes = bytes) (hzs : z.cells.size = size) (hsz : 0 < size)
    (v : Value) (n : Nat) (xs : List Value) (hs : a.eval s = v) (hown : w.ownsRow base e size v n xs)
    (p : Option Addr) (m c : Nat) (news : List Value) (hx : a.eval x = .slice p m c) (hnil : p = none → m = 0 ∧ c = 0) (hl : news.length = m * size) (hnews : Vl.Lies w p news) (h1 : ∀ u ∈ news, u.oneCell' = true)
    (h63 : n + m ≤ maxLen) (hbytes : (n + m) * bytes ≤ 140737488355328) (hbase : base ≤ w.heap.size)
    (h : ∀ v' w', w'.ownsRow base e size v' (n + m) (xs ++ news) → w.grownBy w' v.ownBlock → wpList P ops Q rest (a.put o.dst v') w') : wpList P ops Q (o :: rest) a w := by
  cases p with
  | none =>
    obtain ⟨rfl, rfl⟩ := hnil rfl
    obtain rfl : news = [] := List.length_eq_zero_iff.1 (by omega)
    exact wpList_append_own_none hgd s x t ho base e i size ht hi v n xs hs hown hx (h v w (by simpa using hown) ⟨rfl, rfl, rfl, Nat.le_refl _, fun _ _ _ => rfl⟩)
  | some ad =>
    refine wpList_append_own w hgd s x t ho base e i z size bytes ht hi hz hsize hby hzs hsz v n xs hs hown ad m c news hx hl (fun j u hu => ?_) h1 h63 hbytes hbase (fun v' w' a1 a2 _ => h v' w' a1 a2)
    rcases hnews with h0 | ⟨b, o', e1, _, e3⟩
    · rw [List.length_eq_zero_iff.1 h0] at hu; simp at hu
    · cases e1
      rw [Vl.add_plain]
      exact e3 j u hu

end Go.Proofs.Ytaclkmhgbmencaa
