/- Rows that lie somewhere; the reference's row as a list. -/
import Derived.Test.YtdbbamjijhaeoaaCd1
import Derived.Deep.RegionHeld3
namespace Go.Proofs.Ytdbbamjijhaeoaa
open Go.RowKit

namespace Lk
theorem hid {p : Prop} (h : p) : Hid p := h
theorem belAt {W w1 : World} (hb : Below W.heap.size W w1) {b : Nat} (o : Nat) (h : b < W.heap.size) : w1.cell? ⟨b, o, none⟩ = W.cell? ⟨b, o, none⟩ := hb.cell (p := ⟨b, o, none⟩) h
theorem newAt (w : World) (x : Obj) {n : Nat} (h : n = w.heap.size) : (w.alloc x).heap[n]? = some x := by subst h; show (w.heap.push x)[w.heap.size]? = _; simp
theorem belAl {w w1 : World} (h : Below w.heap.size w w1) (o : Obj) : Below w.heap.size w (w1.alloc o) := h.alloc h.size o
theorem belTr {w w1 w2 : World} (h : Below w.heap.size w w1) (h2 : Below w1.heap.size w1 w2) : Below w.heap.size w w2 := h.trans (h2.mono h.size)
theorem addPlain (b o k : Nat) : (⟨b, o, none⟩ : Addr).add k = ⟨b, o + k, none⟩ := Addr.add_lit b o k
theorem heapLt {w : World} {b : Nat} {x : Obj} (h : w.heap[b]? = some x) : b < w.heap.size := (Array.getElem?_eq_some_iff.1 h).1
def Lies (w : World) (p : Option Addr) (cs : List Value) : Prop := cs.length = 0 ∨ ∃ b o, p = some ⟨b, o, none⟩ ∧ b < w.heap.size ∧ ∀ (j : Nat) (u : Value), cs[j]? = some u → w.cell? ⟨b, o + j, none⟩ = some u
theorem Lies.below {w w1 : World} {p : Option Addr} {cs : List Value} (h : Lies w p cs) (hB : Below w.heap.size w w1) : Lies w1 p cs := by
  rcases h with h | ⟨b, o, h1, h2, h3⟩
  · exact Or.inl h
  · exact Or.inr ⟨b, o, h1, Nat.lt_of_lt_of_le h2 hB.size, fun j u hu => (belAt hB _ h2).trans (h3 j u hu)⟩
theorem liesOwn {w : World} {base n size : Nat} {e : TypeId} {v : Value} {cs : List Value} (h : w.ownsRow base e size v n cs) : ∃ p c, v = .slice p n c ∧ n ≤ c ∧ (p = none → n = 0 ∧ c = 0) ∧ Lies w p cs ∧ ∀ b o, p = some ⟨b, o, none⟩ → o = 0 ∧ base ≤ b ∧ b < w.heap.size := by
  obtain ⟨h0, ⟨e1, e2⟩ | ⟨g, cap, cur, e1, e2, e3, e4, e5, e6, e7⟩⟩ := h
  · subst e2
    exact ⟨none, 0, e1, Nat.le_refl _, fun _ => ⟨rfl, rfl⟩, Or.inl (by omega), (fun _ _ h => nomatch h)⟩
  · have hl : g < w.heap.size := heapLt e3
    refine ⟨_, cap, e1, e4, (fun h => nomatch h), Or.inr ⟨g, 0, rfl, hl, fun j u hu => ?_⟩, fun b o e => by cases e; exact ⟨rfl, e2, hl⟩⟩
    have hj : j < n * size := by rw [← h0]; exact (List.getElem?_eq_some_iff.1 hu).1
    rw [Nat.zero_add]
    rw [← e7, List.getElem?_take_of_lt hj] at hu
    simpa [World.cell?, e3] using hu
theorem ownAt {w : World} {base g size : Nat} {t : TypeId} (h : w.heap[g]? = some (.cells #[] t)) (hb : base ≤ g) : w.ownsRow base t size (.slice (some ⟨g, 0, none⟩) 0 0) 0 [] :=
  ⟨by simp, Or.inr ⟨g, 0, #[], rfl, hb, h, Nat.le_refl _, Nat.zero_le _, by simp, by simp⟩⟩
theorem belOwn {w0 w w2 : World} {base n size : Nat} {e : TypeId} {v : Value} {xs : List Value} (hb : Below w0.heap.size w0 w) (h : w.ownsRow base e size v n xs) (hbase : w0.heap.size ≤ base) (hg : w.grownBy w2 v.ownBlock) : Below w0.heap.size w0 w2 :=
  hb.grown hg hb.size (fun j hj => by
    rcases h.2 with ⟨e1, _⟩ | ⟨g, cap, cur, e1, e2, _⟩
    · rw [e1] at hj; cases hj
    · rw [e1] at hj; cases hj; exact Nat.le_trans hbase e2)
theorem liesOwn2 {w : World} {base n size : Nat} {e : TypeId} {v : Value} {cs : List Value} (h : w.ownsRow base e size v n cs) : ∃ p c, v = .slice p n c ∧ n ≤ c ∧ (p = none → n = 0 ∧ c = 0) ∧ Lies w p cs ∧ (∀ b o, p = some ⟨b, o, none⟩ → o = 0 ∧ base ≤ b ∧ b < w.heap.size) ∧ ∀ a, p = some a → ∃ b, a = ⟨b, 0, none⟩ := by
  obtain ⟨p, c, h1, h2, h3, h4, h5⟩ := liesOwn h
  refine ⟨p, c, h1, h2, h3, h4, h5, fun a ha => ?_⟩
  rcases h.2 with ⟨e1, e2⟩ | ⟨g, cap, cur, e1, _⟩
  · rw [h1] at e1; injection e1 with e1; rw [e1] at ha; cases ha
  · rw [h1] at e1; injection e1 with e1; rw [e1] at ha; injection ha with ha; exact ⟨g, ha.symm⟩
theorem step_append {P : Program} {ops : Array Oper} {o : Oper} {a : Act} {w : World} {K : Act → World → Prop} {Q : Exit → Act → World → Prop} {E : Prop}
    (hgd : o.guard = none) (s x : Operand) (t : TypeId) (hop : o.op = Op.call { callee := Callee.builtin Builtin.append, args := #[s, x], argTypes := #[t, t] })
    (base : Nat) (e : TypeId) (i : TypeInfo) (z : Value) (size bytes : Nat) (ht : P.underlying t = some (.slice e)) (hi : P.info? e = some i) (hz : i.zero = some z)
    (hsize : i.size = size) (hby : i.bytes = bytes) (hzs : z.cells.size = size) (hsz : 0 < size)
    (v : Value) (n : Nat) (xs : List Value) (hs : a.eval s = v) (hown : w.ownsRow base e size v n xs)
    (p : Option Addr) (m c : Nat) (news : List Value) (hx : a.eval x = .slice p m c) (hnil : p = none → m = 0 ∧ c = 0) (hl : news.length = m * size) (hnews : Lies w p news) (h1 : ∀ u ∈ news, u.oneCell' = true)
    (h63 : n + m ≤ maxLen) (hbytes : (n + m) * bytes ≤ 140737488355328) (hbase : base ≤ w.heap.size)
    (hK : ∀ v' w', w'.ownsRow base e size v' (n + m) (xs ++ news) → w.grownBy w' v.ownBlock → K (a.put o.dst v') w') :
    if Region.wanted o (yielded ops a.tmps) = true then Oper.wp P o a w K Q else E := by
  have hw : Region.wanted o (yielded ops a.tmps) = true := by simp [Region.wanted, hgd]
  rw [if_pos hw]
  obtain ⟨v', w', hrun, r1, r2⟩ : ∃ v' w', (Builtin.append_ #[t, t] o.type #[v, .slice p m c]).run P w = .ok v' w' ∧ w'.ownsRow base e size v' (n + m) (xs ++ news) ∧ w.grownBy w' v.ownBlock := by
    cases p with
    | none =>
      obtain ⟨rfl, rfl⟩ := hnil rfl
      obtain rfl : news = [] := List.length_eq_zero_iff.1 (by omega)
      exact ⟨v, w, run_append_owned_none w base t o.type e i size ht hi v n xs hown, by simpa using hown, ⟨rfl, rfl, rfl, Nat.le_refl _, fun _ _ _ => rfl⟩⟩
    | some ad =>
      obtain ⟨v', w', r0, r1, r2, _⟩ := run_append_own w base t o.type e i z size bytes ht hi hz hsize hby hzs hsz v n xs hown ad m c news hl (fun j u hu => by
        rcases hnews with h0 | ⟨b, o', e1, _, e3⟩
        · rw [List.length_eq_zero_iff.1 h0] at hu; simp at hu
        · cases e1
          rw [addPlain]
          exact e3 j u hu) h1 h63 hbytes hbase
      exact ⟨v', w', r0, r1, r2⟩
  unfold Oper.wp
  simp [execOp, hop, resolve, invoke, builtin, hs, hx, hrun, Result.andThen]
  exact hK v' w' r1 r2
structure Blk (w W : World) (g : Nat) (o : Obj) : Prop where
  bel : Below w.heap.size w W
  lo : w.heap.size ≤ g
  at_ : W.heap[g]? = some o
theorem Blk.new {w W : World} (hb : Below w.heap.size w W) (o : Obj) : Blk w (W.alloc o) W.heap.size o := ⟨belAl hb o, hb.size, newAt W o rfl⟩
theorem Blk.new2 {w W : World} (hb : Below w.heap.size w W) (o : Obj) {g : Nat} (h : g = W.heap.size) : Blk w (W.alloc o) g o := by subst h; exact Blk.new hb o
theorem Blk.alloc {w W : World} {g : Nat} {o : Obj} (h : Blk w W g o) (o' : Obj) : Blk w (W.alloc o') g o := ⟨belAl h.bel o', h.lo, by rw [Below.heap_alloc W o' g (heapLt h.at_)]; exact h.at_⟩
theorem Blk.drew {w W : World} {g : Nat} {o : Obj} (h : Blk w W g o) : Blk w W.drew g o := ⟨h.bel.drew, h.lo, h.at_⟩
theorem Blk.grown {w W W' : World} {g : Nat} {o : Obj} {row : Option Nat} (h : Blk w W g o) (hg : W.grownBy W' row) (hne : row ≠ some g) (hr : ∀ k, row = some k → w.heap.size ≤ k) : Blk w W' g o :=
  ⟨h.bel.grown hg h.bel.size hr, h.lo, (hg.block g (heapLt h.at_) (fun e => hne e.symm)).trans h.at_⟩
theorem Blk.own {w W : World} {g size : Nat} {t : TypeId} (h : Blk w W g (.cells #[] t (0, 0))) : W.ownsRow w.heap.size t size (.slice (some ⟨g, 0, none⟩) 0 0) 0 [] := ownAt h.at_ h.lo
theorem Blk.lies {w W : World} {g : Nat} {cs : List Value} {t : TypeId} (h : Blk w W g (.cells cs.toArray t (0, 0))) : Lies W (some ⟨g, 0, none⟩) cs := by
  refine Or.inr ⟨g, 0, rfl, heapLt h.at_, fun j u hu => ?_⟩
  rw [Nat.zero_add]
  unfold World.cell?
  simp only [h.at_]
  simpa using hu
theorem mergeH {G T : Prop} (m : G → T) (p : G) : T := m p
theorem wpAnyH_eq {P : Program} {md : Region.Mode} {ops : Array Oper} {Q : Exit → Act → World → Prop} {S : World → Prop} {fuel : Nat} {l l' : Array Bool} {a : Act} {w : World} (e : l' = l) (h : wpAnyH P md ops Q S fuel l a w) : wpAnyH P md ops Q S fuel l' a w := by subst e; exact h
theorem set1_heap {W : World} {T : Nat} {a b v : Value} {t : TypeId} {fr : Nat × Nat} (h : W.heap[T]? = some (.cells #[a, b] t fr)) : (W.setCell ⟨T, 1, none⟩ v).heap[T]? = some (.cells #[a, v] t fr) := by
  simp [World.setCell, Array.getElem?_modify, h]
theorem set0_heap {W : World} {T : Nat} {a b v : Value} {t : TypeId} {fr : Nat × Nat} (h : W.heap[T]? = some (.cells #[a, b] t fr)) : (W.setCell ⟨T, 0, none⟩ v).heap[T]? = some (.cells #[v, b] t fr) := by
  simp [World.setCell, Array.getElem?_modify, h]
theorem set_size (W : World) (a : Addr) (v : Value) : (W.setCell a v).heap.size = W.heap.size := by show (W.heap.modify _ _).size = _; rw [Array.size_modify]
structure Sl (W : World) (p : Option Addr) (n c : Nat) (cs : List Value) : Prop where
  lies : Lies W p cs
  nil : p = none → n = 0 ∧ c = 0
  zero : ∀ a, p = some a → ∃ b, a = ⟨b, 0, none⟩
  cap : n ≤ c
theorem Sl.own {w : World} {base n size : Nat} {e : TypeId} {v : Value} {cs : List Value} (h : w.ownsRow base e size v n cs) : ∃ p c, v = .slice p n c ∧ Sl w p n c cs := by
  obtain ⟨p, c, h1, h2, h3, h4, h5, h6⟩ := liesOwn2 h
  exact ⟨p, c, h1, h4, h3, h6, h2⟩
end Lk
namespace Mm
/-- The reference's row as a list. -/
def four (t : Cg.Tx) : List Value := [.int .i64 (t.st : Int), .int .i64 (t.snap : Int), .int .i64 (t.csn : Int), .bool t.rd]
def cellsT (f : Nat → Cg.Tx) : Nat → List Value
  | 0 => []
  | n + 1 => cellsT f n ++ four (f (n + 1))
theorem cellsT_len (f : Nat → Cg.Tx) : ∀ n, (cellsT f n).length = n * 4
  | 0 => rfl
  | n + 1 => by rw [cellsT, List.length_append, cellsT_len f n, four]; simp; omega
theorem cellsT_at (f : Nat → Cg.Tx) : ∀ (n i r : Nat), i < n → r < 4 → (cellsT f n)[i * 4 + r]? = (four (f (i + 1)))[r]?
  | n + 1, i, r, hi, hr => by
    rw [cellsT]
    by_cases e : i < n
    · rw [List.getElem?_append_left (by rw [cellsT_len]; omega)]
      exact cellsT_at f n i r e hr
    · obtain rfl : i = n := by omega
      rw [List.getElem?_append_right (by rw [cellsT_len]; omega), cellsT_len]
      congr 1
      omega
theorem four_one (t : Cg.Tx) : ∀ v ∈ four t, v.oneCell' = true := by
  intro v hv
  simp only [four, List.mem_cons, List.mem_nil_iff, or_false] at hv
  rcases hv with rfl | rfl | rfl | rfl <;> rfl
theorem cellsT_one (f : Nat → Cg.Tx) : ∀ n, ∀ v ∈ cellsT f n, v.oneCell' = true
  | 0, v, hv => by simp [cellsT] at hv
  | n + 1, v, hv => by
    rw [cellsT, List.mem_append] at hv
    rcases hv with hv | hv
    · exact cellsT_one f n v hv
    · exact four_one _ v hv
theorem cellsT_upd (f : Nat → Cg.Tx) (k : Nat) (t : Cg.Tx) : ∀ n, n < k → cellsT (Cg.upd f k t) n = cellsT f n
  | 0, _ => rfl
  | n + 1, h => by rw [cellsT, cellsT, cellsT_upd f k t n (by omega), Cg.upd_other _ _ (by omega)]
theorem Fr.of {cs : Array Value} {o : Nat} {t : Cg.Tx} (h : ∀ r, r < 4 → cs[o + r]? = (four t)[r]?) : Fr cs o t := ⟨h 0 (by omega), h 1 (by omega), h 2 (by omega), h 3 (by omega)⟩
theorem Fr.at {cs : Array Value} {o : Nat} {t : Cg.Tx} (h : Fr cs o t) : ∀ r, r < 4 → cs[o + r]? = (four t)[r]? := fun r hr => by
  obtain ⟨a, b, c, d⟩ := h
  match r, hr with
  | 0, _ => exact a
  | 1, _ => exact b
  | 2, _ => exact c
  | 3, _ => exact d
variable {w w' : World} {q : Nat} {s : Cg.S}
/-- What append reads of the reference's log. -/
theorem Rl.lies (h : Rl w q s) : ∃ p c, w.cell? ⟨q, 0, none⟩ = some (.slice p s.n c) ∧ s.n ≤ c ∧ (p = none → s.n = 0 ∧ c = 0) ∧ Lk.Lies w p (cellsT s.f s.n) := by
  obtain ⟨v, h1, h2⟩ := h
  rcases h2 with ⟨h2, rfl⟩ | ⟨g, cap, cur, rfl, h3, h4, h5, h6⟩
  · refine ⟨none, 0, by rw [h2]; exact cellOf h1 rfl, by omega, fun _ => ⟨h2, rfl⟩, Or.inl ?_⟩
    rw [cellsT_len, h2]
  · refine ⟨_, cap, cellOf h1 rfl, h4, (fun e => nomatch e), Or.inr ⟨g, 0, rfl, heapLt h5, fun j u hu => ?_⟩⟩
    have hj := (List.getElem?_eq_some_iff.1 hu).1
    rw [cellsT_len] at hj
    rw [Nat.zero_add]
    refine cellOf h5 ?_
    rw [← hu]
    have e1 := (h6 (j / 4) (by omega)).at (j % 4) (by omega)
    have e2 := cellsT_at s.f s.n (j / 4) (j % 4) (by omega) (by omega)
    rw [show j / 4 * 4 + j % 4 = j from by omega] at e1 e2
    rw [e1, e2]
theorem Rw.of {h : Nat} {v : Value} (H : w.ownsRow h 61 4 v s.n (cellsT s.f s.n)) : Rw w h v s := by
  obtain ⟨h0, ⟨e1, e2⟩ | ⟨g, cap, cur, e1, e2, e3, e4, e5, e6, e7⟩⟩ := H
  · exact Or.inl ⟨e2, e1⟩
  · refine Or.inr ⟨g, cap, cur, e1, e2, e4, e3, fun i hi => Fr.of (fun r hr => ?_)⟩
    have e := cellsT_at s.f s.n i r hi hr
    rw [← e, ← e7, List.getElem?_take_of_lt (by omega)]
    simp
theorem tx_info : ∃ i, Try.prog.info? 61 = some i ∧ i.zero = some (.agg #[.int .i64 0, .int .i64 0, .int .i64 0, .bool false]) ∧ i.size = 4 ∧ i.bytes = 32 := ⟨_, Try.type61, rfl, rfl, rfl⟩
end Mm
end Go.Proofs.Ytdbbamjijhaeoaa
