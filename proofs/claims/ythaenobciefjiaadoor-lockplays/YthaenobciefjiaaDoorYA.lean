/- LockPlays: the reference's lists. -/
import Derived.Test.YthaenobciefjiaaDoorJ6
import Derived.Test.YthaenobciefjiaaDoorA4
import Derived.Test.YthaenobciefjiaaDoorA5
import Derived.Deep.QuietTactic
import Derived.Laws.AppendOwnNone
import Derived.OwnWalk
import Derived.Deep.RegionHeld3
namespace Go.Proofs.YthaenobciefjiaaDoor
open Go.RowKit

namespace Lk
/-- What a holder has, or what it waits for. -/
structure Hd where
  nm : Bytes
  ho : Int
  md : Int
/-- What may stand in a list. -/
def Hd.ok (y : Hd) : Prop := (1 ≤ y.md ∧ y.md ≤ 8) ∧ y.nm.length ≤ 8 ∧ 1 ≤ y.ho ∧ y.ho ≤ 200
def hdB (h : Int) (n : Bytes) (y : Hd) : Bool := y.ho == h && y.nm == n
def setF (h : Int) (n : Bytes) (a : Nat) (y : Hd) : Nat := if hdB h n y then a ||| bit y.md else a
/-- The modes that a holder has of a name. -/
def setR (l : List Hd) (h : Int) (n : Bytes) : Nat := l.foldl (setF h n) 0
theorem setR_snoc (l : List Hd) (y : Hd) (h : Int) (n : Bytes) : setR (l ++ [y]) h n = setF h n (setR l h n) y := by
  unfold setR; rw [List.foldl_append]; rfl
theorem setR_nil (h : Int) (n : Bytes) : setR [] h n = 0 := rfl
/-- Does y bar the request x? -/
def hitB (x y : Hd) : Bool := y.nm == x.nm && y.ho != x.ho && Md.barsB y.md x.md
/-- By whom x is barred, behind those of A. -/
def BarsR (has A : List Hd) (x : Hd) (o : Int) : Prop := (∃ y ∈ has, hitB x y = true ∧ y.ho = o) ∨ (setR has x.ho x.nm = 0 ∧ ∃ y ∈ A, hitB x y = true ∧ y.ho = o)
def barsRb (has A : List Hd) (x : Hd) : Bool := has.any (hitB x) || (decide (setR has x.ho x.nm = 0) && A.any (hitB x))
theorem barsRb_iff (has A : List Hd) (x : Hd) : barsRb has A x = true ↔ ∃ o, BarsR has A x o := by
  unfold barsRb BarsR
  rw [Bool.or_eq_true, Bool.and_eq_true, List.any_eq_true, List.any_eq_true, decide_eq_true_eq]
  constructor
  · rintro (⟨y, hy, h⟩ | ⟨hz, y, hy, h⟩)
    · exact ⟨y.ho, Or.inl ⟨y, hy, h, rfl⟩⟩
    · exact ⟨y.ho, Or.inr ⟨hz, y, hy, h, rfl⟩⟩
  · rintro ⟨o, ⟨y, hy, h, _⟩ | ⟨hz, y, hy, h, _⟩⟩
    · exact Or.inl ⟨y, hy, h⟩
    · exact Or.inr ⟨hz, y, hy, h⟩
variable {nm : Bytes}
/-- The reference goes through the queue of a name. -/
def serveT (nm : Bytes) : List Hd → List Hd → List Hd → List Hd × List Hd × List Int
  | has, A, [] => (has, A, [])
  | has, A, y :: B => if y.nm == nm && !barsRb has A y then ((serveT nm (has ++ [y]) A B).1, (serveT nm (has ++ [y]) A B).2.1, y.ho :: (serveT nm (has ++ [y]) A B).2.2) else serveT nm has (A ++ [y]) B
theorem serveT_get {has A B : List Hd} {y : Hd} (h1 : y.nm = nm) (h2 : barsRb has A y = false) : serveT nm has A (y :: B) = ((serveT nm (has ++ [y]) A B).1, (serveT nm (has ++ [y]) A B).2.1, y.ho :: (serveT nm (has ++ [y]) A B).2.2) := by
  rw [serveT, h2, if_pos (by simpa using h1)]
theorem serveT_wait {has A B : List Hd} {y : Hd} (h : y.nm ≠ nm ∨ barsRb has A y = true) : serveT nm has A (y :: B) = serveT nm has (A ++ [y]) B := by
  rw [serveT, if_neg]
  rcases h with h | h
  · simp [h]
  · simp [h]
theorem serveT_len : ∀ (B has A : List Hd), (serveT nm has A B).1.length + (serveT nm has A B).2.1.length = has.length + A.length + B.length ∧ (serveT nm has A B).2.2.length + (serveT nm has A B).2.1.length = A.length + B.length
  | [], has, A => by simp [serveT]
  | y :: B, has, A => by
    by_cases h : y.nm = nm ∧ barsRb has A y = false
    · rw [serveT_get h.1 h.2]
      have := serveT_len B (has ++ [y]) A
      simp only [List.length_append, List.length_cons, List.length_nil] at this ⊢
      omega
    · rw [serveT_wait (by
        by_cases e : y.nm = nm
        · exact Or.inr (by
            cases hb : barsRb has A y
            · exact absurd ⟨e, hb⟩ h
            · rfl)
        · exact Or.inl e)]
      have := serveT_len B has (A ++ [y])
      simp only [List.length_append, List.length_cons, List.length_nil] at this ⊢
      omega
/-- What the reference keeps: what is had, and who waits. -/
structure Rt where
  has : List Hd
  qu : List Hd
def okR (x : Int) (nm : Bytes) (m : Int) : Bool := decide (1 ≤ x) && decide (x ≤ 200) && Md.isB m && decide (nm.length ≤ 8)
/-- Take, of the reference. -/
def takeT (r : Rt) (x : Int) (nm : Bytes) (m : Int) : Int × Rt :=
  if okR x nm m = false then (1, r)
  else if (r.qu.find? (fun y => y.ho == x)).isSome then (76, r)
  else if setR r.has x nm &&& bit m ≠ 0 then (0, r)
  else if barsRb r.has r.qu ⟨nm, x, m⟩ = true then (75, ⟨r.has, r.qu ++ [⟨nm, x, m⟩]⟩)
  else (0, ⟨r.has ++ [⟨nm, x, m⟩], r.qu⟩)
/-- A holder gone. -/
def leaveT (r : Rt) (x : Int) : Rt := ⟨r.has.filter (fun y => y.ho != x), r.qu.filter (fun y => y.ho != x)⟩
/-- Through the names. -/
def relT : List Bytes → Rt → Rt × List Int
  | [], r => (r, [])
  | n :: ns, r => ((relT ns ⟨(serveT n r.has [] r.qu).1, (serveT n r.has [] r.qu).2.1⟩).1, (serveT n r.has [] r.qu).2.2 ++ (relT ns ⟨(serveT n r.has [] r.qu).1, (serveT n r.has [] r.qu).2.1⟩).2)
end Lk

end Go.Proofs.YthaenobciefjiaaDoor

/- LockPlays: the reference's lists in memory. -/
namespace Go.Proofs.YthaenobciefjiaaDoor
open Go.RowKit

namespace Lk
theorem belAt {W w1 : World} (hb : Below W.heap.size W w1) {b : Nat} (o : Nat) (h : b < W.heap.size) : w1.cell? ⟨b, o, none⟩ = W.cell? ⟨b, o, none⟩ := hb.cell (p := ⟨b, o, none⟩) h
theorem newAt (w : World) (x : Obj) {n : Nat} (h : n = w.heap.size) : (w.alloc x).heap[n]? = some x := by subst h; show (w.heap.push x)[w.heap.size]? = _; simp
theorem belAl {w w1 : World} (h : Below w.heap.size w w1) (o : Obj) : Below w.heap.size w (w1.alloc o) := h.alloc h.size o
theorem belTr {w w1 w2 : World} (h : Below w.heap.size w w1) (h2 : Below w1.heap.size w1 w2) : Below w.heap.size w w2 := h.trans (h2.mono h.size)
theorem addPlain (b o k : Nat) : (⟨b, o, none⟩ : Addr).add k = ⟨b, o + k, none⟩ := Addr.add_lit b o k
theorem heapLt {w : World} {b : Nat} {x : Obj} (h : w.heap[b]? = some x) : b < w.heap.size := (Array.getElem?_eq_some_iff.1 h).1
/-- Cells that lie where a slice says: of none it may lie nowhere. -/
def Lies (w : World) (p : Option Addr) (cs : List Value) : Prop := cs.length = 0 ∨ ∃ b o, p = some ⟨b, o, none⟩ ∧ b < w.heap.size ∧ ∀ (j : Nat) (u : Value), cs[j]? = some u → w.cell? ⟨b, o + j, none⟩ = some u
theorem Lies.below {w w1 : World} {p : Option Addr} {cs : List Value} (h : Lies w p cs) (hB : Below w.heap.size w w1) : Lies w1 p cs := by
  rcases h with h | ⟨b, o, h1, h2, h3⟩
  · exact Or.inl h
  · exact Or.inr ⟨b, o, h1, Nat.lt_of_lt_of_le h2 hB.size, fun j u hu => (belAt hB _ h2).trans (h3 j u hu)⟩
theorem Lies.drew {w : World} {p : Option Addr} {cs : List Value} (h : Lies w p cs) : Lies w.drew p cs := h
theorem Lies.keep {w w1 : World} {p : Option Addr} {cs : List Value} (h : Lies w p cs) (hz : w.heap.size ≤ w1.heap.size) (hk : ∀ b o, p = some ⟨b, o, none⟩ → w1.heap[b]? = w.heap[b]?) : Lies w1 p cs := by
  rcases h with h | ⟨b, o, h1, h2, h3⟩
  · exact Or.inl h
  · exact Or.inr ⟨b, o, h1, Nat.lt_of_lt_of_le h2 hz, fun j u hu => (World.cell?_of_block (a := ⟨b, o + j, none⟩) (hk b o h1)).trans (h3 j u hu)⟩
theorem Lies.take {w : World} {p : Option Addr} {cs : List Value} (h : Lies w p cs) (k : Nat) : Lies w p (cs.take k) := by
  rcases h with h | ⟨b, o, h1, h2, h3⟩
  · exact Or.inl (by rw [List.length_take]; omega)
  · refine Or.inr ⟨b, o, h1, h2, fun j u hu => h3 j u ?_⟩
    rw [List.getElem?_take] at hu
    split at hu
    · exact hu
    · cases hu
theorem Lies.drop {w : World} {b o : Nat} {cs : List Value} (h : Lies w (some ⟨b, o, none⟩) cs) (k : Nat) : Lies w (some ⟨b, o + k, none⟩) (cs.drop k) := by
  rcases h with h | ⟨b, o, h1, h2, h3⟩
  · exact Or.inl (by rw [List.length_drop]; omega)
  · injection h1 with h1
    injection h1 with e1 e2
    subst e1 e2
    refine Or.inr ⟨_, _, rfl, h2, fun j u hu => ?_⟩
    rw [List.getElem?_drop] at hu
    rw [Nat.add_assoc]
    exact h3 _ u hu
/-- The cells of what stands in the reference's lists. -/
def cellsH : List Hd → List Value
  | [] => []
  | y :: l => str y.nm :: .int .i64 y.ho :: .int .i64 y.md :: cellsH l
theorem cellsH_length : ∀ l, (cellsH l).length = l.length * 3
  | [] => rfl
  | _ :: l => by simp [cellsH, cellsH_length l]; omega
theorem cellsH_app : ∀ (a b : List Hd), cellsH (a ++ b) = cellsH a ++ cellsH b
  | [], _ => rfl
  | x :: a, b => by simp [cellsH, cellsH_app a b]
theorem cellsH_one : ∀ l, ∀ v ∈ cellsH l, v.oneCell' = true
  | [], _, h => by cases h
  | _ :: l, v, h => by
    simp only [cellsH, List.mem_cons] at h
    rcases h with rfl | rfl | rfl | h
    · rfl
    · rfl
    · rfl
    · exact cellsH_one l v h
theorem cellsH_at : ∀ (l : List Hd) (j : Nat) (y : Hd), l[j]? = some y → (cellsH l)[j * 3]? = some (str y.nm) ∧ (cellsH l)[j * 3 + 1]? = some (.int .i64 y.ho) ∧ (cellsH l)[j * 3 + 2]? = some (.int .i64 y.md)
  | [], j, v, h => by simp at h
  | x :: l, 0, v, h => by simp at h; subst h; simp [cellsH]
  | x :: l, j + 1, v, h => by
    have ih := cellsH_at l j v (by simpa using h)
    rw [show (j + 1) * 3 = j * 3 + 3 from by omega, show j * 3 + 3 + 1 = (j * 3 + 1) + 3 from by omega, show j * 3 + 3 + 2 = (j * 3 + 2) + 3 from by omega]
    simpa [cellsH] using ih
theorem cellsH_take : ∀ (k : Nat) (l : List Hd), (cellsH l).take (k * 3) = cellsH (l.take k)
  | 0, l => by simp [cellsH]
  | k + 1, [] => by simp [cellsH]
  | k + 1, v :: l => by
    rw [show (k + 1) * 3 = k * 3 + 3 from by omega]
    simp [cellsH, cellsH_take k l]
theorem cellsH_drop : ∀ (k : Nat) (l : List Hd), (cellsH l).drop (k * 3) = cellsH (l.drop k)
  | 0, l => by simp
  | k + 1, [] => by simp [cellsH]
  | k + 1, v :: l => by
    rw [show (k + 1) * 3 = k * 3 + 3 from by omega]
    simp [cellsH, cellsH_drop k l]
/-- A row of these, by its slice. -/
def HdIn (w : World) (p : Option Addr) (l : List Hd) : Prop := Lies w p (cellsH l)
/-- One of them lies at a place. -/
structure H3 (w : World) (b o : Nat) (y : Hd) : Prop where
  lt : b < w.heap.size
  c0 : w.cell? ⟨b, o, none⟩ = some (str y.nm)
  c1 : w.cell? ⟨b, o + 1, none⟩ = some (.int .i64 y.ho)
  c2 : w.cell? ⟨b, o + 2, none⟩ = some (.int .i64 y.md)
theorem HdIn.at {w : World} {p : Option Addr} {l : List Hd} {k : Nat} {y : Hd} (h : HdIn w p l) (hv : l[k]? = some y) : ∃ b o, p = some ⟨b, o, .none⟩ ∧ H3 w b (o + k * 3) y := by
  obtain ⟨c0, c1, c2⟩ := cellsH_at l k y hv
  rcases h with h | ⟨b, o, h1, h2, h3⟩
  · rw [List.length_eq_zero_iff.1 h] at c0; simp at c0
  · exact ⟨b, o, h1, h2, h3 _ _ c0, by rw [Nat.add_assoc]; exact h3 _ _ c1, by rw [Nat.add_assoc]; exact h3 _ _ c2⟩
theorem liesOwn {w : World} {base n size : Nat} {e : TypeId} {v : Value} {cs : List Value} (h : w.ownsRow base e size v n cs) : ∃ p c, v = .slice p n c ∧ n ≤ c ∧ (p = none → n = 0 ∧ c = 0) ∧ Lies w p cs ∧ ∀ b o, p = some ⟨b, o, none⟩ → o = 0 ∧ base ≤ b ∧ b < w.heap.size := by
  obtain ⟨h0, ⟨e1, e2⟩ | ⟨g, cap, cur, e1, e2, e3, e4, e5, e6, e7⟩⟩ := h
  · subst e2
    exact ⟨none, 0, e1, Nat.le_refl _, fun _ => ⟨rfl, rfl⟩, Or.inl (by omega), (fun _ _ h => nomatch h)⟩
  · have hl : g < w.heap.size := heapLt e3
    refine ⟨_, cap, e1, e4, (fun h => nomatch h), Or.inr ⟨g, 0, rfl, hl, fun j u hu => ?_⟩, fun b o e => by cases e; exact ⟨rfl, e2, hl⟩⟩
    have hj : j < n * size := by rw [← h0]; exact (List.getElem?_eq_some_iff.1 hu).1
    rw [Nat.zero_add]
    rw [← e7, List.getElem?_take_of_lt hj] at hu
    simpa [World.cell?, e3] using hu
theorem ownBelow {w w2 : World} {base size n : Nat} {e : TypeId} {v : Value} {xs : List Value} (h : w.ownsRow base e size v n xs) (hb : Below w.heap.size w w2) : w2.ownsRow base e size v n xs := by
  obtain ⟨h0, h1 | ⟨g, cap, cur, e1, e2, e3, e4⟩⟩ := h
  · exact ⟨h0, Or.inl h1⟩
  · exact ⟨h0, Or.inr ⟨g, cap, cur, e1, e2, by rw [hb.block g (heapLt e3)]; exact e3, e4⟩⟩
theorem ownAt {w : World} {base g size : Nat} {t : TypeId} (h : w.heap[g]? = some (.cells #[] t)) (hb : base ≤ g) : w.ownsRow base t size (.slice (some ⟨g, 0, none⟩) 0 0) 0 [] :=
  ⟨by simp, Or.inr ⟨g, 0, #[], rfl, hb, h, Nat.le_refl _, Nat.zero_le _, by simp, by simp⟩⟩
theorem ownDrew {w : World} {base size n : Nat} {e : TypeId} {v : Value} {xs : List Value} (h : w.ownsRow base e size v n xs) : w.drew.ownsRow base e size v n xs := h
/-- append, whether what is behind it lies anywhere or nowhere. -/
theorem append_any {P : Program} {w : World} {ops : Array Oper} {rest : List Oper} {o : Oper} {a : Act} {Q : Exit → Act → World → Prop} (hgd : o.guard = none) (s x : Operand) (t : TypeId)
    (ho : o.op = .call { callee := .builtin .append, args := #[s, x], argTypes := #[t, t] })
    (base : Nat) (e : TypeId) (i : TypeInfo) (z : Value) (size bytes : Nat) (ht : P.underlying t = some (.slice e)) (hi : P.info? e = some i) (hz : i.zero = some z)
    (hsize : i.size = size) (hby : i.bytes = bytes) (hzs : z.cells.size = size) (hsz : 0 < size)
    (v : Value) (n : Nat) (xs : List Value) (hs : a.eval s = v) (hown : w.ownsRow base e size v n xs)
    (p : Option Addr) (m c : Nat) (news : List Value) (hx : a.eval x = .slice p m c) (hnil : p = none → m = 0 ∧ c = 0) (hl : news.length = m * size) (hnews : Lies w p news) (h1 : ∀ u ∈ news, u.oneCell' = true)
    (h63 : n + m ≤ maxLen) (hbytes : (n + m) * bytes ≤ 140737488355328) (hbase : base ≤ w.heap.size)
    (h : ∀ v' w', w'.ownsRow base e size v' (n + m) (xs ++ news) → w.grownBy w' v.ownBlock → wpList P ops Q rest (a.put o.dst v') w') : wpList P ops Q (o :: rest) a w := by
  cases p with
  | none =>
    obtain ⟨rfl, rfl⟩ := hnil rfl
    obtain rfl : news = [] := List.length_eq_zero_iff.1 (by omega)
    exact wpList_append_own_none hgd s x t ho base e i size ht hi v n xs hs hown hx (h v w (by simpa using hown) ⟨rfl, rfl, rfl, Nat.le_refl _, fun _ _ _ => rfl⟩)
  | some ad =>
    refine wpList_append_own w hgd s x t ho base e i z size bytes ht hi hz hsize hby hzs hsz v n xs hs hown ad m c news hx hl (fun j u hu => ?_) h1 h63 hbytes hbase (fun v' w' a1 a2 _ => h v' w' a1 a2)
    rcases hnews with h0 | ⟨b, o', e1, _, e3⟩
    · rw [List.length_eq_zero_iff.1 h0] at hu; simp at hu
    · cases e1
      rw [addPlain]
      exact e3 j u hu
/-- What append to a new row gives. -/
theorem belOwn {w0 w w2 : World} {base n size : Nat} {e : TypeId} {v : Value} {xs : List Value} (hb : Below w0.heap.size w0 w) (h : w.ownsRow base e size v n xs) (hbase : w0.heap.size ≤ base) (hg : w.grownBy w2 v.ownBlock) : Below w0.heap.size w0 w2 :=
  hb.grown hg hb.size (fun j hj => by
    rcases h.2 with ⟨e1, _⟩ | ⟨g, cap, cur, e1, e2, _⟩
    · rw [e1] at hj; cases hj
    · rw [e1] at hj; cases hj; exact Nat.le_trans hbase e2)

/-- The reference's table. -/
structure Rm (X : List Nat) (W : World) (T : Nat) (r : Rt) : Prop where
  mem : T ∈ X
  cell : ∃ pa ca pb cb, W.heap[T]? = some (.cells #[.slice pa r.has.length ca, .slice pb r.qu.length cb] 28 (0, 0)) ∧ HdIn W pa r.has ∧ HdIn W pb r.qu ∧ (pa = none → r.has.length = 0 ∧ ca = 0) ∧ (pb = none → r.qu.length = 0 ∧ cb = 0) ∧ r.has.length ≤ ca ∧ r.qu.length ≤ cb ∧ (∀ b o, pa = some ⟨b, o, none⟩ → b ∈ X ∧ b ≠ T ∧ o = 0) ∧ (∀ b o, pb = some ⟨b, o, none⟩ → b ∈ X ∧ b ≠ T ∧ o = 0)
theorem Rm.lt {X : List Nat} {W : World} {T : Nat} {r : Rt} (h : Rm X W T r) : T < W.heap.size := by
  obtain ⟨_, _, _, _, h1, -⟩ := h.cell
  exact heapLt h1
theorem Rm.keep {X : List Nat} {W W' : World} {T : Nat} {r : Rt} (h : Rm X W T r) (hz : W.heap.size ≤ W'.heap.size) (hk : ∀ b ∈ X, W'.heap[b]? = W.heap[b]?) : Rm X W' T r := by
  obtain ⟨pa, ca, pb, cb, h1, h2, h3, h4, h5, h6, h7, h8, h9⟩ := h.cell
  exact ⟨h.mem, pa, ca, pb, cb, (hk T h.mem).trans h1, h2.keep hz (fun b o e => hk b (h8 b o e).1), h3.keep hz (fun b o e => hk b (h9 b o e).1), h4, h5, h6, h7, h8, h9⟩
theorem Rm.below {X : List Nat} {W W' : World} {T : Nat} {r : Rt} (h : Rm X W T r) (hb : Below W.heap.size W W') : Rm X W' T r := by
  obtain ⟨pa, ca, pb, cb, h1, h2, h3, r⟩ := h.cell
  exact ⟨h.mem, pa, ca, pb, cb, (hb.block T (heapLt h1)).trans h1, Lies.below h2 hb, Lies.below h3 hb, r⟩
theorem Rm.drew {X : List Nat} {W : World} {T : Nat} {r : Rt} (h : Rm X W T r) : Rm X W.drew T r := h.below (Below.refl _ _).drew
theorem Rm.more {X Y : List Nat} {W : World} {T : Nat} {r : Rt} (h : Rm X W T r) (hx : ∀ b ∈ X, b ∈ Y) : Rm Y W T r := by
  obtain ⟨pa, ca, pb, cb, h1, h2, h3, h4, h5, h6, h7, h8, h9⟩ := h.cell
  exact ⟨hx _ h.mem, pa, ca, pb, cb, h1, h2, h3, h4, h5, h6, h7, fun b o e => ⟨hx b (h8 b o e).1, (h8 b o e).2⟩, fun b o e => ⟨hx b (h9 b o e).1, (h9 b o e).2⟩⟩
end Lk

end Go.Proofs.YthaenobciefjiaaDoor

/- The reference's Find, Set walked. -/
namespace Go.Proofs.YthaenobciefjiaaDoor
open Go.RowKit

namespace Lk
theorem hid {p : Prop} (h : p) : Hid p := h
/-- What Find tells. -/
def FindR (qu : List Hd) (x k : Int) : Prop := (k = -1 ∧ ∀ z ∈ qu, z.ho ≠ x) ∨ ∃ (i : Nat) (y : Hd), k = (i : Int) ∧ qu[i]? = some y ∧ y.ho = x
/-- The cells of the reference's table. -/
theorem Rm.qu {X : List Nat} {W : World} {T : Nat} {r : Rt} (h : Rm X W T r) : ∃ pb cb, W.cell? ⟨T, 1, none⟩ = some (.slice pb r.qu.length cb) ∧ HdIn W pb r.qu ∧ r.qu.length ≤ cb ∧ (pb = none → r.qu.length = 0 ∧ cb = 0) ∧ ∀ b o, pb = some ⟨b, o, none⟩ → o = 0 := by
  obtain ⟨pa, ca, pb, cb, h1, h2, h3, h4, h5, h6, h7, h8, h9⟩ := h.cell
  exact ⟨pb, cb, by simp [World.cell?, h1], h3, h7, h5, fun b o e => (h9 b o e).2.2⟩
theorem Rm.has {X : List Nat} {W : World} {T : Nat} {r : Rt} (h : Rm X W T r) : ∃ pa ca, W.cell? ⟨T, 0, none⟩ = some (.slice pa r.has.length ca) ∧ HdIn W pa r.has ∧ r.has.length ≤ ca ∧ (pa = none → r.has.length = 0 ∧ ca = 0) ∧ ∀ b o, pa = some ⟨b, o, none⟩ → o = 0 := by
  obtain ⟨pa, ca, pb, cb, h1, h2, h3, h4, h5, h6, h7, h8, h9⟩ := h.cell
  exact ⟨pa, ca, by simp [World.cell?, h1], h2, h6, h4, fun b o e => (h8 b o e).2.2⟩
end Lk

set_option maxRecDepth 100000 in
set_option maxHeartbeats 2000000 in
theorem refFind_any (X : List Nat) (W : World) (T : Nat) (r : Lk.Rt) (x : Int) (hR : Hid (Lk.Rm X W T r)) (hn : r.qu.length ≤ 1000) :
    Calls Tryd.prog 34 #[.pointer (some ⟨T, 0, none⟩), .int .i64 x] W fun e w' => ∃ k : Int, e = .returned (.int .i64 k) ∧ Lk.FindR r.qu x k ∧ w' = W := by
  obtain ⟨pb, cb, hc, hin, hcap, hnil, ho⟩ := hR.out.qu
  have HIN := Lk.hid hin
  obtain ⟨n, hnn⟩ : ∃ n, n = r.qu.length := ⟨_, rfl⟩
  rw [← hnn] at hc hn
  have HN := Lk.hid hnn
  clear hin hnn hcap hnil
  go_enter Tryd.func34, Tryd.ntmps34
  go_wp2_with fail
  go_loopw [5] (fun vi wr => ∃ i : Nat, i ≤ n ∧ vi = .int .i64 (i : Int) ∧ wr = W ∧ Hid (∀ (j : Nat) z, j < i → r.qu[j]? = some z → z.ho ≠ x)) (fun vi _ => n - (RowKit.intOf vi).toNat)
  case atStart => exact ⟨0, by omega, rfl, rfl, fun _ _ h => absurd h (Nat.not_lt_zero _)⟩
  case round =>
    obtain ⟨i, hi, rfl, hq, HI⟩ := hrel
    obtain rfl := hq.symm
    by_cases hlt : i < n
    · obtain ⟨y, hy⟩ : ∃ y, r.qu[i]? = some y := ⟨_, List.getElem?_eq_getElem (by rw [← HN.out]; exact hlt)⟩
      obtain ⟨b, o, rfl, hlb, c0, c1, c2⟩ := HIN.out.at hy
      obtain rfl := ho b o rfl
      rw [Nat.zero_add] at c0 c1 c2
      have HY := Lk.hid hy
      clear hy c0 c2 hlb
      have g1 : (0 : Int) ≤ (i : Int) := by omega
      have g2 : (i : Int) < (n : Int) := by omega
      cases ht : (y.ho == x)
      · go_wp2_with fail
        refine ⟨⟨i + 1, by omega, by go_num, trivial, fun j z hj hz => ?_⟩, by simp [RowKit.intOf]; omega⟩
        by_cases e : j = i
        · subst e
          rw [HY.out] at hz
          cases hz
          simpa using ht
        · exact HI.out j z (by omega) hz
      · go_wp2_with fail
        go_ret
        exact ⟨_, rfl, Or.inr ⟨i, y, rfl, HY.out, by simpa using ht⟩, rfl⟩
    · obtain rfl : i = n := by omega
      go_wp2_with fail
      go_ret
      refine ⟨_, rfl, Or.inl ⟨rfl, fun z hz => ?_⟩, rfl⟩
      obtain ⟨j, hj⟩ := List.getElem?_of_mem hz
      exact HI.out j z (by rw [HN.out]; exact (List.getElem?_eq_some_iff.1 hj).1) hj

end Go.Proofs.YthaenobciefjiaaDoor

/- The reference's Set walked. -/
namespace Go.Proofs.YthaenobciefjiaaDoor
open Go.RowKit

namespace Lk
theorem setR_take {l : List Hd} {i : Nat} {y : Hd} (h : l[i]? = some y) (x : Int) (n : Bytes) : setR (l.take (i + 1)) x n = setF x n (setR (l.take i) x n) y := by
  rw [List.take_add_one, h]
  exact setR_snoc _ _ _ _
theorem setR_lt2 {l : List Hd} (hl : ∀ y ∈ l, 1 ≤ y.md ∧ y.md ≤ 8) (h : Int) (n : Bytes) : ∀ i, setR (l.take i) h n < 512
  | 0 => by show 0 < 512; omega
  | i + 1 => by
    cases hy : l[i]? with
    | none =>
      rw [List.take_add_one, hy]
      simpa using setR_lt2 hl h n i
    | some y =>
      rw [setR_take hy]
      unfold setF
      by_cases c : hdB h n y = true
      · rw [if_pos c]; exact Nat.or_lt_two_pow (n := 9) (setR_lt2 hl h n i) (bit_lt (hl y (List.mem_of_getElem? hy))).2
      · rw [if_neg c]; exact setR_lt2 hl h n i
theorem ba_list (a : Bytes) : (⟨a.toArray⟩ : ByteArray).toList = a := by
  rw [ByteArray.toList_eq]
theorem str_eq (a b : Bytes) : ((⟨a.toArray⟩ : ByteArray).toList == (⟨b.toArray⟩ : ByteArray).toList) = (a == b) := by rw [ba_list, ba_list]
theorem shl_w {m : Int} (h : 1 ≤ m ∧ m ≤ 8) : wrap64 (2 ^ m.toNat) = (bit m : Int) := by
  have hm : m = 1 ∨ m = 2 ∨ m = 3 ∨ m = 4 ∨ m = 5 ∨ m = 6 ∨ m = 7 ∨ m = 8 := by omega
  rcases hm with rfl | rfl | rfl | rfl | rfl | rfl | rfl | rfl <;> (unfold wrap64 bit; decide)
end Lk

set_option maxRecDepth 100000 in
set_option maxHeartbeats 2000000 in
theorem refSet_any (X : List Nat) (W : World) (T : Nat) (r : Lk.Rt) (x : Int) (nm : Lk.Bytes) (hR : Hid (Lk.Rm X W T r)) (hn : r.has.length ≤ 1000) (hok : Hid (∀ y ∈ r.has, y.ok)) :
    Calls Tryd.prog 20 #[.pointer (some ⟨T, 0, none⟩), .int .i64 x, Lk.str nm] W fun e w' => e = .returned (.int .i64 (Lk.setR r.has x nm)) ∧ w' = W := by
  obtain ⟨pb, cb, hc, hin, hcap, hnil, ho⟩ := hR.out.has
  have HIN := Lk.hid hin
  obtain ⟨n, hnn⟩ : ∃ n, n = r.has.length := ⟨_, rfl⟩
  rw [← hnn] at hc hn
  have HN := Lk.hid hnn
  clear hin hnn hcap hnil
  go_enter Tryd.func20, Tryd.ntmps20
  go_wp2_with fail
  go_loopw [7, 8] (fun vs vi wr => ∃ i : Nat, i ≤ n ∧ vi = .int .i64 (i : Int) ∧ vs = .int .i64 (Lk.setR (r.has.take i) x nm) ∧ wr = W) (fun _ vi _ => n - (RowKit.intOf vi).toNat)
  case atStart => exact ⟨0, by omega, rfl, rfl, rfl⟩
  case round =>
    obtain ⟨i, hi, rfl, rfl, hq⟩ := hrel
    obtain rfl := hq.symm
    by_cases hlt : i < n
    · obtain ⟨y, hy⟩ : ∃ y, r.has[i]? = some y := ⟨_, List.getElem?_eq_getElem (by rw [← HN.out]; exact hlt)⟩
      obtain ⟨b, o, rfl, hlb, c0, c1, c2⟩ := HIN.out.at hy
      obtain rfl := ho b o rfl
      rw [Nat.zero_add] at c0 c1 c2
      have HY := Lk.hid hy
      clear hy hlb
      have g1 : (0 : Int) ≤ (i : Int) := by omega
      have g2 : (i : Int) < (n : Int) := by omega
      have hE := Lk.str_eq y.nm nm
      cases ht : (y.ho == x)
      · have HT := Lk.hid ht
        clear hE
        go_wp2_with fail
        refine ⟨⟨i + 1, by omega, by go_num, ?_, trivial⟩, by simp [RowKit.intOf]; omega⟩
        rw [Lk.setR_take HY.out]
        unfold Lk.setF Lk.hdB
        rw [HT.out]; rfl
      · have HT := Lk.hid ht
        cases hs : (y.nm == nm)
        · have HS := Lk.hid hs
          rw [hs] at hE
          go_wp2_with fail
          refine ⟨⟨i + 1, by omega, by go_num, ?_, trivial⟩, by simp [RowKit.intOf]; omega⟩
          rw [Lk.setR_take HY.out]
          unfold Lk.setF Lk.hdB
          rw [HT.out, HS.out]; rfl
        · have HS := Lk.hid hs
          rw [hs] at hE
          have hmd : 1 ≤ y.md ∧ y.md ≤ 8 := (hok.out y (List.mem_of_getElem? HY.out)).1
          have hor := Lk.or_eq _ _ (Lk.setR_lt2 (fun z hz => (hok.out z hz).1) x nm i) (Lk.bit_lt hmd).2
          go_wp2_with fail
          refine ⟨⟨i + 1, by omega, by go_num, ?_, trivial⟩, by simp [RowKit.intOf]; omega⟩
          rw [Lk.setR_take HY.out, Lk.shl_w hmd, hor]
          unfold Lk.setF Lk.hdB
          rw [HT.out, HS.out]; rfl
    · go_wp2_with fail
      go_ret
      refine ⟨?_, rfl⟩
      have e : r.has.take i = r.has := List.take_of_length_le (by rw [← HN.out]; omega)
      rw [e]; rfl

end Go.Proofs.YthaenobciefjiaaDoor

/- The reference's put walked. -/
namespace Go.Proofs.YthaenobciefjiaaDoor
open Go.RowKit

namespace Lk
/-- append, as one step of a region that draws. -/
theorem step_append {P : Program} {ops : Array Oper} {o : Oper} {a : Act} {w : World} {K : Act → World → Prop} {Q : Exit → Act → World → Prop} {E : Prop}
    (hgd : o.guard = none) (s x : Operand) (t : TypeId) (hop : o.op = Op.call { callee := Callee.builtin Builtin.append, args := #[s, x], argTypes := #[t, t] })
    (base : Nat) (e : TypeId) (i : TypeInfo) (z : Value) (size bytes : Nat) (ht : P.underlying t = some (.slice e)) (hi : P.info? e = some i) (hz : i.zero = some z)
    (hsize : i.size = size) (hby : i.bytes = bytes) (hzs : z.cells.size = size) (hsz : 0 < size)
    (v : Value) (n : Nat) (xs : List Value) (hs : a.eval s = v) (hown : w.ownsRow base e size v n xs)
    (p : Option Addr) (m c : Nat) (news : List Value) (hx : a.eval x = .slice p m c) (hnil : p = none → m = 0 ∧ c = 0) (hl : news.length = m * size) (hnews : Lies w p news) (h1 : ∀ u ∈ news, u.oneCell' = true)
    (h63 : n + m ≤ maxLen) (hbytes : (n + m) * bytes ≤ 140737488355328) (hbase : base ≤ w.heap.size)
    (hK : ∀ v' w', w'.ownsRow base e size v' (n + m) (xs ++ news) → w.grownBy w' v.ownBlock → K (a.put o.dst v') w') :
    if Region.wanted o (yielded ops a.tmps) = true then Oper.wp P o a w K Q else E := by
  have hw : Region.wanted o (yielded ops a.tmps) = true := by simp [Region.wanted, hgd]
  rw [if_pos hw]
  obtain ⟨v', w', hrun, r1, r2⟩ : ∃ v' w', (Builtin.append_ #[t, t] o.type #[v, .slice p m c]).run P w = .ok v' w' ∧ w'.ownsRow base e size v' (n + m) (xs ++ news) ∧ w.grownBy w' v.ownBlock := by
    cases p with
    | none =>
      obtain ⟨rfl, rfl⟩ := hnil rfl
      obtain rfl : news = [] := List.length_eq_zero_iff.1 (by omega)
      exact ⟨v, w, run_append_owned_none w base t o.type e i size ht hi v n xs hown, by simpa using hown, ⟨rfl, rfl, rfl, Nat.le_refl _, fun _ _ _ => rfl⟩⟩
    | some ad =>
      obtain ⟨v', w', r0, r1, r2, _⟩ := run_append_own w base t o.type e i z size bytes ht hi hz hsize hby hzs hsz v n xs hown ad m c news hl (fun j u hu => by
        rcases hnews with h0 | ⟨b, o', e1, _, e3⟩
        · rw [List.length_eq_zero_iff.1 h0] at hu; simp at hu
        · cases e1
          rw [addPlain]
          exact e3 j u hu) h1 h63 hbytes hbase
      exact ⟨v', w', r0, r1, r2⟩
  unfold Oper.wp
  simp [execOp, hop, resolve, invoke, builtin, hs, hx, hrun, Result.andThen]
  exact hK v' w' r1 r2
/-- A block that was made since. -/
structure Blk (w W : World) (g : Nat) (o : Obj) : Prop where
  bel : Below w.heap.size w W
  lo : w.heap.size ≤ g
  at_ : W.heap[g]? = some o
theorem Blk.new {w W : World} (hb : Below w.heap.size w W) (o : Obj) : Blk w (W.alloc o) W.heap.size o := ⟨belAl hb o, hb.size, newAt W o rfl⟩
theorem Blk.new2 {w W : World} (hb : Below w.heap.size w W) (o : Obj) {g : Nat} (h : g = W.heap.size) : Blk w (W.alloc o) g o := by subst h; exact Blk.new hb o
theorem Blk.alloc {w W : World} {g : Nat} {o : Obj} (h : Blk w W g o) (o' : Obj) : Blk w (W.alloc o') g o := ⟨belAl h.bel o', h.lo, by rw [Below.heap_alloc W o' g (heapLt h.at_)]; exact h.at_⟩
theorem Blk.drew {w W : World} {g : Nat} {o : Obj} (h : Blk w W g o) : Blk w W.drew g o := ⟨h.bel.drew, h.lo, h.at_⟩
theorem Blk.grown {w W W' : World} {g : Nat} {o : Obj} {row : Option Nat} (h : Blk w W g o) (hg : W.grownBy W' row) (hne : row ≠ some g) (hr : ∀ k, row = some k → w.heap.size ≤ k) : Blk w W' g o :=
  ⟨h.bel.grown hg h.bel.size hr, h.lo, (hg.block g (heapLt h.at_) (fun e => hne e.symm)).trans h.at_⟩
theorem Blk.own {w W : World} {g size : Nat} {t : TypeId} (h : Blk w W g (.cells #[] t (0, 0))) : W.ownsRow w.heap.size t size (.slice (some ⟨g, 0, none⟩) 0 0) 0 [] := ownAt h.at_ h.lo
theorem Blk.lies {w W : World} {g : Nat} {cs : List Value} {t : TypeId} (h : Blk w W g (.cells cs.toArray t (0, 0))) : Lies W (some ⟨g, 0, none⟩) cs := by
  refine Or.inr ⟨g, 0, rfl, heapLt h.at_, fun j u hu => ?_⟩
  rw [Nat.zero_add]
  unfold World.cell?
  simp only [h.at_]
  simpa using hu
theorem liesOwn2 {w : World} {base n size : Nat} {e : TypeId} {v : Value} {cs : List Value} (h : w.ownsRow base e size v n cs) : ∃ p c, v = .slice p n c ∧ n ≤ c ∧ (p = none → n = 0 ∧ c = 0) ∧ Lies w p cs ∧ (∀ b o, p = some ⟨b, o, none⟩ → o = 0 ∧ base ≤ b ∧ b < w.heap.size) ∧ ∀ a, p = some a → ∃ b, a = ⟨b, 0, none⟩ := by
  obtain ⟨p, c, h1, h2, h3, h4, h5⟩ := liesOwn h
  refine ⟨p, c, h1, h2, h3, h4, h5, fun a ha => ?_⟩
  rcases h.2 with ⟨e1, e2⟩ | ⟨g, cap, cur, e1, _⟩
  · rw [h1] at e1; injection e1 with e1; rw [e1] at ha; cases ha
  · rw [h1] at e1; injection e1 with e1; rw [e1] at ha; injection ha with ha; exact ⟨g, ha.symm⟩
/-- A row that a slice names. -/
structure Sl (W : World) (p : Option Addr) (n c : Nat) (cs : List Value) : Prop where
  lies : Lies W p cs
  nil : p = none → n = 0 ∧ c = 0
  zero : ∀ a, p = some a → ∃ b, a = ⟨b, 0, none⟩
  cap : n ≤ c
abbrev numsV (l : List Int) : List Value := l.map (Value.int .i64)
abbrev strsV (l : List Bytes) : List Value := l.map str
theorem Sl.below {w w1 : World} {p : Option Addr} {n c : Nat} {cs : List Value} (h : Sl w p n c cs) (hB : Below w.heap.size w w1) : Sl w1 p n c cs := ⟨h.lies.below hB, h.nil, h.zero, h.cap⟩
theorem Sl.none (w : World) : Sl w none 0 0 [] := ⟨Or.inl rfl, fun _ => ⟨rfl, rfl⟩, (fun _ h => nomatch h), Nat.le_refl _⟩
theorem Sl.num {w : World} {p : Option Addr} {n c : Nat} {l : List Int} (h : Sl w p n c (numsV l)) {j : Nat} {a : Int} (ha : l[j]? = some a) : ∃ b, p = some ⟨b, 0, .none⟩ ∧ b < w.heap.size ∧ w.cell? ⟨b, j, .none⟩ = some (.int .i64 a) := by
  have hj : (numsV l)[j]? = some (.int .i64 a) := by rw [List.getElem?_map, ha]; rfl
  rcases h.lies with e | ⟨b, o, h1, h2, h3⟩
  · rw [List.length_eq_zero_iff.1 e] at hj; cases hj
  · obtain ⟨b', e'⟩ := h.zero _ h1
    injection e' with _ e'
    subst e'
    exact ⟨b, h1, h2, by have := h3 j _ hj; rwa [Nat.zero_add] at this⟩
theorem Sl.txt {w : World} {p : Option Addr} {n c : Nat} {l : List Bytes} (h : Sl w p n c (strsV l)) {j : Nat} {a : Bytes} (ha : l[j]? = some a) : ∃ b, p = some ⟨b, 0, .none⟩ ∧ b < w.heap.size ∧ w.cell? ⟨b, j, .none⟩ = some (str a) := by
  have hj : (strsV l)[j]? = some (str a) := by rw [List.getElem?_map, ha]; rfl
  rcases h.lies with e | ⟨b, o, h1, h2, h3⟩
  · rw [List.length_eq_zero_iff.1 e] at hj; cases hj
  · obtain ⟨b', e'⟩ := h.zero _ h1
    injection e' with _ e'
    subst e'
    exact ⟨b, h1, h2, by have := h3 j _ hj; rwa [Nat.zero_add] at this⟩
theorem Sl.own {w : World} {base n size : Nat} {e : TypeId} {v : Value} {cs : List Value} (h : w.ownsRow base e size v n cs) : ∃ p c, v = .slice p n c ∧ Sl w p n c cs := by
  obtain ⟨p, c, h1, h2, h3, h4, h5, h6⟩ := liesOwn2 h
  exact ⟨p, c, h1, h4, h3, h6, h2⟩
/-- One more, where it belongs. -/
def PutR (l : List Int) (n : Int) (l' : List Int) : Prop := (Rs.Up (· ≤ ·) l → Rs.Up (· ≤ ·) l' ∧ ∀ o, o ∈ l' ↔ (o ∈ l ∨ o = n)) ∧ l'.length ≤ l.length + 1
theorem put_same {l : List Int} {n : Int} {k : Nat} (h : l[k]? = some n) : PutR l n l := by
  refine ⟨fun hu => ⟨hu, fun o => ⟨Or.inl, fun ho => ?_⟩⟩, Nat.le_succ _⟩
  rcases ho with ho | ho
  · exact ho
  · rw [ho]; exact List.mem_of_getElem? h
theorem put_new {l : List Int} {n : Int} {k : Nat} (hk : k ≤ l.length) (h1 : ∀ (j : Nat) a, j < k → l[j]? = some a → a < n) (h2 : ∀ a, l[k]? = some a → n < a) : PutR l n (l.take k ++ [n] ++ l.drop k) := by
  refine ⟨fun hu => ⟨?_, fun o => ?_⟩, ?_⟩
  · have hu0 := hu
    rw [← List.take_append_drop k l] at hu
    obtain ⟨u1, u2, u3⟩ := List.pairwise_append.1 hu
    have t1 : ∀ a ∈ l.take k, a < n := fun a ha => by
      obtain ⟨j, hj⟩ := List.getElem?_of_mem ha
      rw [List.getElem?_take] at hj
      split at hj
      · exact h1 j a (by assumption) hj
      · cases hj
    have t2 : ∀ a ∈ l.drop k, n < a := fun a ha => by
      obtain ⟨j, hj⟩ := List.getElem?_of_mem ha
      rw [List.getElem?_drop] at hj
      obtain ⟨c, hc⟩ : ∃ c, l[k]? = some c := ⟨_, List.getElem?_eq_getElem (by have := (List.getElem?_eq_some_iff.1 hj).1; omega)⟩
      have := h2 c hc
      rcases Nat.eq_zero_or_pos j with e | e
      · subst e
        rw [Nat.add_zero, hc] at hj
        cases hj; exact this
      · have h3 := (List.pairwise_iff_getElem.1 hu0) k (k + j) (List.getElem?_eq_some_iff.1 hc).1 (List.getElem?_eq_some_iff.1 hj).1 (by omega)
        rw [(List.getElem?_eq_some_iff.1 hc).2, (List.getElem?_eq_some_iff.1 hj).2] at h3
        have := h3.1
        omega
    refine List.pairwise_append.2 ⟨List.pairwise_append.2 ⟨u1, List.pairwise_singleton _ _, fun a ha b hb => ?_⟩, u2, fun a ha b hb => ?_⟩
    · rw [List.mem_singleton.1 hb]
      have := t1 a ha
      exact ⟨by omega, by omega⟩
    · rcases List.mem_append.1 ha with ha | ha
      · exact u3 a ha b hb
      · rw [List.mem_singleton.1 ha]
        have := t2 b hb
        exact ⟨by omega, by omega⟩
  · rw [List.mem_append, List.mem_append, List.mem_singleton]
    have e : o ∈ l ↔ o ∈ l.take k ∨ o ∈ l.drop k := by rw [← List.mem_append, List.take_append_drop]
    rw [e]
    constructor
    · rintro ((h | h) | h)
      · exact Or.inl (Or.inl h)
      · exact Or.inr h
      · exact Or.inl (Or.inr h)
    · rintro ((h | h) | h)
      · exact Or.inl (Or.inl h)
      · exact Or.inr h
      · exact Or.inl (Or.inr h)
  · simp; omega
theorem Sl.drop {w : World} {p : Option Addr} {n c : Nat} {cs : List Value} (h : Sl w p n c cs) (k : Nat) : Lies w (p.map (fun a => a.add k)) (cs.drop k) := by
  cases p with
  | none =>
    rcases h.lies with e | ⟨b, o, h1, _⟩
    · exact Or.inl (by rw [List.length_drop]; omega)
    · cases h1
  | some a =>
    rcases h.lies with e | ⟨b, o, h1, h2, h3⟩
    · exact Or.inl (by rw [List.length_drop]; omega)
    · injection h1 with h1
      subst h1
      have := Lies.drop (w := w) (b := b) (o := o) (cs := cs) (Or.inr ⟨b, o, rfl, h2, h3⟩) k
      rw [Option.map_some, addPlain]
      exact this
theorem cut_some {w : World} {b n c i size : Nat} {cs : List Value} (h : Sl w (some ⟨b, 0, none⟩) n c cs) (hn : cs.length = n * size) (hi : i ≤ n) : Lies w (if c = i then some ⟨b, 0, none⟩ else some ⟨b, i * size, none⟩) (cs.drop (i * size)) := by
  by_cases e : c = i
  · rw [if_pos e]
    have := h.cap
    have e2 : i = n := by omega
    exact Or.inl (by rw [List.length_drop, hn, e2]; omega)
  · rw [if_neg e]
    have := h.drop (i * size)
    rwa [Option.map_some, addPlain, Nat.zero_add] at this
theorem put_facts {w : World} {b n c i : Nat} {l : List Int} (h : Sl w (some ⟨b, 0, none⟩) n c (numsV l)) (hn : n = l.length) (hi : i ≤ n) :
    Hid (((some ⟨b, 0, none⟩ : Option Addr) = none → i = 0 ∧ c = 0) ∧ ((if c = i then some (⟨b, 0, none⟩ : Addr) else some ⟨b, i, none⟩) = none → n - i = 0 ∧ c - i = 0)) ∧ Hid ((numsV (l.take i)).length = i * 1 ∧ (numsV (l.drop i)).length = (n - i) * 1) ∧ Hid (Lies w (some ⟨b, 0, none⟩) (numsV (l.take i)) ∧ Lies w (if c = i then some ⟨b, 0, none⟩ else some ⟨b, i, none⟩) (numsV (l.drop i))) := by
  refine ⟨⟨(fun e => nomatch e), fun e => ?_⟩, ⟨?_, ?_⟩, ?_, ?_⟩
  · split at e <;> cases e
  · simp; omega
  · simp; omega
  · have := h.lies.take i
    rwa [← List.map_take] at this
  · have := cut_some (size := 1) h (by simp; omega) hi
    rw [Nat.mul_one] at this
    rwa [← List.map_drop] at this
theorem put_facts0 {w : World} {n c i : Nat} {l : List Int} (h : Sl w none n c (numsV l)) (hn : n = l.length) (hi : i ≤ n) :
    Hid ((i = 0 ∧ c = 0) ∧ (n - i = 0 ∧ c - i = 0)) ∧ Hid ((numsV (l.take i)).length = i * 1 ∧ (numsV (l.drop i)).length = (n - i) * 1) ∧ Hid (Lies w none (numsV (l.take i)) ∧ Lies w none (numsV (l.drop i))) := by
  have h0 := h.nil rfl
  refine ⟨⟨by omega, by omega⟩, ⟨?_, ?_⟩, ?_, ?_⟩
  · simp; omega
  · simp; omega
  · exact Or.inl (by simp; omega)
  · exact Or.inl (by simp; omega)
theorem put_len {l : List Int} {n i : Nat} (x : Int) (hn : n = l.length) (hi : i ≤ n) : (l.take i ++ [x] ++ l.drop i).length = i + 1 + (n - i) ∧ numsV (l.take i ++ [x] ++ l.drop i) = numsV (l.take i) ++ [.int .i64 x] ++ numsV (l.drop i) := by
  constructor
  · simp; omega
  · simp
end Lk

set_option maxRecDepth 100000 in
set_option maxHeartbeats 2000000 in
theorem refPut_any (p : Option Addr) (c : Nat) (l : List Int) (x : Int) (w : World) (hS : Hid (Lk.Sl w p l.length c (Lk.numsV l))) (hn : l.length ≤ 100000) :
    Calls Tryd.prog 48 #[.slice p l.length c, .int .i64 x] w fun e w' => ∃ p' c' l', e = .returned (.slice p' l'.length c') ∧ Lk.Sl w' p' l'.length c' (Lk.numsV l') ∧ Lk.PutR l x l' ∧ Below w.heap.size w w' := by
  obtain ⟨n, hnn⟩ : ∃ n, n = l.length := ⟨_, rfl⟩
  rw [← hnn] at hS hn ⊢
  have HN := Lk.hid hnn
  obtain ⟨i0, HI0⟩ : ∃ i, Hid (Tryd.prog.info? 3 = some i ∧ i.zero = some (.int .i64 0) ∧ i.size = 1 ∧ i.bytes = 8) := ⟨_, Tryd.type3, rfl, rfl, rfl⟩
  clear hnn
  go_enter Tryd.func48, Tryd.ntmps48
  go_wp2_with fail
  go_loopw [5] (fun vi wr => ∃ i : Nat, i ≤ n ∧ vi = .int .i64 (i : Int) ∧ wr = w ∧ Hid (∀ (j : Nat) a, j < i → l[j]? = some a → a < x)) (fun vi _ => n - (RowKit.intOf vi).toNat)
  case atStart => exact ⟨0, by omega, rfl, rfl, fun _ _ h => absurd h (Nat.not_lt_zero _)⟩
  case round =>
    obtain ⟨i, hi, rfl, hq, HI⟩ := hrel
    obtain rfl := hq.symm
    by_cases hlt : i < n
    · obtain ⟨a, ha⟩ : ∃ a, l[i]? = some a := ⟨_, List.getElem?_eq_getElem (by rw [← HN.out]; exact hlt)⟩
      obtain ⟨b, rfl, hlb, c0⟩ := hS.out.num ha
      have HA := Lk.hid ha
      clear ha hlb
      have g1 : (0 : Int) ≤ (i : Int) := by omega
      have g2 : (i : Int) < (n : Int) := by omega
      cases ht : decide (a < x)
      · cases he : (a == x)
        · have HP : Hid (Lk.PutR l x (l.take i ++ [x] ++ l.drop i)) := Lk.put_new (by rw [← HN.out]; exact hi) HI.out (by intro a2 h2; rw [HA.out] at h2; cases h2; simp at ht he; omega)
          obtain ⟨HNIL, HLEN, HLIE⟩ : Hid _ ∧ Hid _ ∧ Hid _ := Lk.put_facts hS.out HN.out hi
          have hcap := hS.out.cap
          have gc0 : (0 : Int) ≤ (i : Int) := by omega
          have gc1 : (i : Int) ≤ (c : Int) := by omega
          have gc2 : (i : Int) ≤ (n : Int) := by omega
          have gc3 : (n : Int) ≤ (c : Int) := by omega
          go_wp2_with fail
          refine wp_region_held_drew (S := fun w' => Below w.heap.size w w') (by kernel_rfl) ((Below.refl _ _).drew) (fun hH => ?_)
          refine wpAnyH_take (i := 1) (oi := ?oz1q1) (v := ?vz1q1) ?hiz1q1 ?hsz1q1 ?hfz1q1 ?hrz1q1 ?hQz1q1 (Or.inl ⟨?hwz1q1, ?hyz1q1⟩) ?hSz1q1 ?restz1q1
          case hiz1q1 => (simp; rfl)
          case hsz1q1 => kernel_rfl
          case hfz1q1 => kernel_rfl
          case hrz1q1 => kernel_rfl
          case hQz1q1 => exact fun _ _ _ h => h
          case hwz1q1 => rfl
          case hyz1q1 => (intro wq hSq; (try dsimp only at hSq); go_simp; (try with_reducible rfl))
          case hSz1q1 => assumption
          simp only [Act.put, List.setIfInBounds_toArray, List.set_cons_zero, List.set_cons_succ]
          refine wpAnyH_take (i := 2) (oi := ?oz2q2) (v := ?vz2q2) ?hiz2q2 ?hsz2q2 ?hfz2q2 ?hrz2q2 ?hQz2q2 (Or.inl ⟨?hwz2q2, ?hyz2q2⟩) ?hSz2q2 ?restz2q2
          case hiz2q2 => (simp; rfl)
          case hsz2q2 => kernel_rfl
          case hfz2q2 => kernel_rfl
          case hrz2q2 => kernel_rfl
          case hQz2q2 => exact fun _ _ _ h => h
          case hwz2q2 => rfl
          case hyz2q2 => (intro wq hSq; (try dsimp only at hSq); go_simp; (try with_reducible rfl))
          case hSz2q2 => assumption
          simp only [Act.put, List.setIfInBounds_toArray, List.set_cons_zero, List.set_cons_succ]
          refine wpAnyH_take (i := 3) (oi := ?oz3q3) (v := ?vz3q3) ?hiz3q3 ?hsz3q3 ?hfz3q3 ?hrz3q3 ?hQz3q3 (Or.inl ⟨?hwz3q3, ?hyz3q3⟩) ?hSz3q3 ?restz3q3
          case hiz3q3 => (simp; rfl)
          case hsz3q3 => kernel_rfl
          case hfz3q3 => kernel_rfl
          case hrz3q3 => kernel_rfl
          case hQz3q3 => exact fun _ _ _ h => h
          case hwz3q3 => rfl
          case hyz3q3 => (intro wq hSq; (try dsimp only at hSq); go_simp; (try with_reducible rfl))
          case hSz3q3 => assumption
          simp only [Act.put, List.setIfInBounds_toArray, List.set_cons_zero, List.set_cons_succ]
          refine wpAnyH_take (i := 5) (oi := ?oz4q5) (v := ?vz4q5) ?hiz4q5 ?hsz4q5 ?hfz4q5 ?hrz4q5 ?hQz4q5 (Or.inl ⟨?hwz4q5, ?hyz4q5⟩) ?hSz4q5 ?restz4q5
          case hiz4q5 => (simp; rfl)
          case hsz4q5 => kernel_rfl
          case hfz4q5 => kernel_rfl
          case hrz4q5 => kernel_rfl
          case hQz4q5 => exact fun _ _ _ h => h
          case hwz4q5 => rfl
          case hyz4q5 => (intro wq hSq; (try dsimp only at hSq); go_simp; (try with_reducible rfl))
          case hSz4q5 => assumption
          simp only [Act.put, List.setIfInBounds_toArray, List.set_cons_zero, List.set_cons_succ]
          refine wpAnyH_take (i := 8) (oi := ?oz5q8) (v := ?vz5q8) ?hiz5q8 ?hsz5q8 ?hfz5q8 ?hrz5q8 ?hQz5q8 (Or.inl ⟨?hwz5q8, ?hyz5q8⟩) ?hSz5q8 ?restz5q8
          case hiz5q8 => (simp; rfl)
          case hsz5q8 => kernel_rfl
          case hfz5q8 => kernel_rfl
          case hrz5q8 => kernel_rfl
          case hQz5q8 => exact fun _ _ _ h => h
          case hwz5q8 => rfl
          case hyz5q8 => (intro wq hSq; (try dsimp only at hSq); go_simp; (try with_reducible rfl))
          case hSz5q8 => assumption
          simp only [Act.put, List.setIfInBounds_toArray, List.set_cons_zero, List.set_cons_succ]
          refine wpAnyH_take (i := 9) (oi := ?oz6q9) (v := ?vz6q9) ?hiz6q9 ?hsz6q9 ?hfz6q9 ?hrz6q9 ?hQz6q9 (Or.inl ⟨?hwz6q9, ?hyz6q9⟩) ?hSz6q9 ?restz6q9
          case hiz6q9 => (simp; rfl)
          case hsz6q9 => kernel_rfl
          case hfz6q9 => kernel_rfl
          case hrz6q9 => kernel_rfl
          case hQz6q9 => exact fun _ _ _ h => h
          case hwz6q9 => rfl
          case hyz6q9 => (intro wq hSq; (try dsimp only at hSq); go_simp; (try with_reducible rfl))
          case hSz6q9 => assumption
          simp only [Act.put, List.setIfInBounds_toArray, List.set_cons_zero, List.set_cons_succ]
          refine wpAnyH_take (i := 10) (oi := ?oz7q10) (v := ?vz7q10) ?hiz7q10 ?hsz7q10 ?hfz7q10 ?hrz7q10 ?hQz7q10 (Or.inl ⟨?hwz7q10, ?hyz7q10⟩) ?hSz7q10 ?restz7q10
          case hiz7q10 => (simp; rfl)
          case hsz7q10 => kernel_rfl
          case hfz7q10 => kernel_rfl
          case hrz7q10 => kernel_rfl
          case hQz7q10 => exact fun _ _ _ h => h
          case hwz7q10 => rfl
          case hyz7q10 => (intro wq hSq; (try dsimp only at hSq); go_simp; (try with_reducible rfl))
          case hSz7q10 => assumption
          simp only [Act.put, List.setIfInBounds_toArray, List.set_cons_zero, List.set_cons_succ]
          refine wpAnyH_ready (rs := [0, 6]) (by kernel_rfl) (by simp) ?_
          refine AllReadyH.cons (o := ?oz8q) ?hz8q (fun K hK => ?rz8q) (AllReadyH.cons (o := ?oz9q) ?hz9q (fun K hK => ?rz9q) AllReadyH.nil)
          case hz8q => (simp; rfl)
          case hz9q => (simp; rfl)
          case rz8q =>
            go_simp
            refine hK.out _ _ ((Lk.Blk.new2 (Below.refl _ w) _ (g := w.heap.size) rfl).drew.bel) (fun hHz10q => ?_)
            clear hK K
            refine wpAnyH_ready (rs := [4, 6]) (by kernel_rfl) (by simp) ?_
            refine AllReadyH.cons (o := ?oz11q) ?hz11q (fun K hK => ?rz11q) (AllReadyH.cons (o := ?oz12q) ?hz12q (fun K hK => ?rz12q) AllReadyH.nil)
            case hz11q => (simp; rfl)
            case hz12q => (simp; rfl)
            case rz11q =>
              refine Lk.step_append rfl _ _ 37 rfl w.heap.size 3 i0 (.int .i64 0) 1 8 Tryd.underlying37 HI0.out.1 HI0.out.2.1 HI0.out.2.2.1 HI0.out.2.2.2 rfl (by decide) (.slice (some ⟨w.heap.size, 0, none⟩) 0 0) 0 [] rfl (((Lk.Blk.new2 (Below.refl _ w) _ (g := w.heap.size) rfl).drew).own) _ i c (Lk.numsV (l.take i)) rfl HNIL.out.1 HLEN.out.1 (HLIE.out.1.below ((Lk.Blk.new2 (Below.refl _ w) _ (g := w.heap.size) rfl).drew).bel) (ints_oneCell .i64 _) (by unfold maxLen; omega) (by omega) (((Lk.Blk.new2 (Below.refl _ w) _ (g := w.heap.size) rfl).drew).bel.size) ?_
              intro v1 W1 hown1 hgrow1
              rw [List.nil_append, Nat.zero_add] at hown1
              have HB1 := Lk.hid (Lk.belOwn (size := 1) ((Lk.Blk.new2 (Below.refl _ w) _ (g := w.heap.size) rfl).drew).bel ((Lk.Blk.new2 (Below.refl _ w) _ (g := w.heap.size) rfl).drew).own (Nat.le_refl _) hgrow1)
              have HOWN1 := Lk.hid hown1
              clear hown1 hgrow1
              refine hK.out _ _ (HB1.out) (fun hHz13q => ?_)
              clear hK K
              refine wpAnyH_ready (rs := [6]) (by kernel_rfl) (by simp) ?_
              refine AllReadyH.cons (o := ?oz14q) ?hz14q (fun K hK => ?rz14q) AllReadyH.nil
              case hz14q => (simp; rfl)
              case rz14q =>
                go_simp
                refine hK.out _ _ (Lk.belAl HB1.out _) (fun hHz15q => ?_)
                clear hK K
                refine wpAnyH_ready (rs := [7]) (by kernel_rfl) (by simp) ?_
                refine AllReadyH.cons (o := ?oz16q) ?hz16q (fun K hK => ?rz16q) AllReadyH.nil
                case hz16q => (simp; rfl)
                case rz16q =>
                  refine Lk.step_append rfl _ _ 37 rfl w.heap.size 3 i0 (.int .i64 0) 1 8 Tryd.underlying37 HI0.out.1 HI0.out.2.1 HI0.out.2.2.1 HI0.out.2.2.2 rfl (by decide) v1 i (Lk.numsV (l.take i)) rfl (HOWN1.out.alloc _) (some ⟨W1.heap.size, 0, none⟩) 1 1 [.int .i64 x] rfl (fun h => nomatch h) rfl ((Lk.Blk.new HB1.out _).lies (cs := [.int .i64 x])) (ints_oneCell .i64 [x]) (by unfold maxLen; omega) (by omega) ((Lk.belAl HB1.out _).size) ?_
                  intro v2 W2 hown2 hgrow2
                  have HB2 := Lk.hid (Lk.belOwn (size := 1) (Lk.belAl HB1.out _) (HOWN1.out.alloc _) (Nat.le_refl _) hgrow2)
                  have HOWN2 := Lk.hid hown2
                  clear hown2 hgrow2
                  refine hK.out _ _ (HB2.out) (fun hHz17q => ?_)
                  clear hK K
                  refine wpAnyH_ready (rs := [11]) (by kernel_rfl) (by simp) ?_
                  refine AllReadyH.cons (o := ?oz18q) ?hz18q (fun K hK => ?rz18q) AllReadyH.nil
                  case hz18q => (simp; rfl)
                  case rz18q =>
                    refine Lk.step_append rfl _ _ 37 rfl w.heap.size 3 i0 (.int .i64 0) 1 8 Tryd.underlying37 HI0.out.1 HI0.out.2.1 HI0.out.2.2.1 HI0.out.2.2.2 rfl (by decide) v2 (i + 1) (Lk.numsV (l.take i) ++ [.int .i64 x]) rfl (HOWN2.out) _ (n - i) (c - i) (Lk.numsV (l.drop i)) rfl HNIL.out.2 HLEN.out.2 (HLIE.out.2.below HB2.out) (ints_oneCell .i64 _) (by unfold maxLen; omega) (by omega) (HB2.out.size) ?_
                    intro v3 W3 hown3 hgrow3
                    have HB3 := Lk.hid (Lk.belOwn (size := 1) (HB2.out) (HOWN2.out) (Nat.le_refl _) hgrow3)
                    have HOWN3 := Lk.hid hown3
                    clear hown3 hgrow3
                    refine hK.out _ _ (HB3.out) (fun hHz19q => ?_)
                    clear hK K
                    refine wpAnyH_take (i := 12) (oi := ?oz20q12) (v := ?vz20q12) ?hiz20q12 ?hsz20q12 ?hfz20q12 ?hrz20q12 ?hQz20q12 (Or.inl ⟨?hwz20q12, ?hyz20q12⟩) ?hSz20q12 ?restz20q12
                    case hiz20q12 => (simp; rfl)
                    case hsz20q12 => kernel_rfl
                    case hfz20q12 => kernel_rfl
                    case hrz20q12 => kernel_rfl
                    case hQz20q12 => exact fun _ _ _ h => h
                    case hwz20q12 => rfl
                    case hyz20q12 => (intro wq hSq; (try dsimp only at hSq); go_simp; (try with_reducible rfl))
                    case hSz20q12 => assumption
                    simp only [Act.put, List.setIfInBounds_toArray, List.set_cons_zero, List.set_cons_succ]
                    refine wpAnyH_done (by kernel_rfl) ?_ _
                    go_wp2_with fail
                    all_goals
                      go_ret
                      obtain ⟨p3, c3, rfl, hS3⟩ := Lk.Sl.own HOWN3.out
                      exact ⟨p3, c3, l.take i ++ [x] ++ l.drop i, by rw [(Lk.put_len x HN.out hi).1]; rfl, by rw [(Lk.put_len x HN.out hi).1, (Lk.put_len x HN.out hi).2]; exact hS3, HP.out, HB3.out⟩
            case rz12q =>
              go_simp
              refine hK.out _ _ ((Lk.Blk.new2 (Lk.belAl (Below.refl _ w) _) _ (g := w.heap.size + 1) (by simp)).drew.bel) (fun hHz21q => ?_)
              clear hK K
              refine wpAnyH_ready (rs := [4]) (by kernel_rfl) (by simp) ?_
              refine AllReadyH.cons (o := ?oz22q) ?hz22q (fun K hK => ?rz22q) AllReadyH.nil
              case hz22q => (simp; rfl)
              case rz22q =>
                refine Lk.step_append rfl _ _ 37 rfl w.heap.size 3 i0 (.int .i64 0) 1 8 Tryd.underlying37 HI0.out.1 HI0.out.2.1 HI0.out.2.2.1 HI0.out.2.2.2 rfl (by decide) (.slice (some ⟨w.heap.size, 0, none⟩) 0 0) 0 [] rfl ((((Lk.Blk.new2 (Below.refl _ w) _ (g := w.heap.size) rfl).alloc _).drew).own) _ i c (Lk.numsV (l.take i)) rfl HNIL.out.1 HLEN.out.1 (HLIE.out.1.below (((Lk.Blk.new2 (Below.refl _ w) _ (g := w.heap.size) rfl).alloc _).drew).bel) (ints_oneCell .i64 _) (by unfold maxLen; omega) (by omega) ((((Lk.Blk.new2 (Below.refl _ w) _ (g := w.heap.size) rfl).alloc _).drew).bel.size) ?_
                intro v1 W1 hown1 hgrow1
                rw [List.nil_append, Nat.zero_add] at hown1
                have HB1 := Lk.hid (Lk.belOwn (size := 1) (((Lk.Blk.new2 (Below.refl _ w) _ (g := w.heap.size) rfl).alloc _).drew).bel (((Lk.Blk.new2 (Below.refl _ w) _ (g := w.heap.size) rfl).alloc _).drew).own (Nat.le_refl _) hgrow1)
                have HOWN1 := Lk.hid hown1
                have HX1 := Lk.hid (((Lk.Blk.new2 (Lk.belAl (Below.refl _ w) _) _ (g := w.heap.size + 1) (by simp)).drew).grown hgrow1 (by simp [Value.ownBlock]) (fun k hk => by cases hk; exact Nat.le_refl _))
                clear hown1 hgrow1
                refine hK.out _ _ (HB1.out) (fun hHz23q => ?_)
                clear hK K
                refine wpAnyH_ready (rs := [7]) (by kernel_rfl) (by simp) ?_
                refine AllReadyH.cons (o := ?oz24q) ?hz24q (fun K hK => ?rz24q) AllReadyH.nil
                case hz24q => (simp; rfl)
                case rz24q =>
                  refine Lk.step_append rfl _ _ 37 rfl w.heap.size 3 i0 (.int .i64 0) 1 8 Tryd.underlying37 HI0.out.1 HI0.out.2.1 HI0.out.2.2.1 HI0.out.2.2.2 rfl (by decide) v1 i (Lk.numsV (l.take i)) rfl (HOWN1.out) (some ⟨w.heap.size + 1, 0, none⟩) 1 1 [.int .i64 x] rfl (fun h => nomatch h) rfl (HX1.out.lies (cs := [.int .i64 x])) (ints_oneCell .i64 [x]) (by unfold maxLen; omega) (by omega) ((HB1.out).size) ?_
                  intro v2 W2 hown2 hgrow2
                  have HB2 := Lk.hid (Lk.belOwn (size := 1) (HB1.out) (HOWN1.out) (Nat.le_refl _) hgrow2)
                  have HOWN2 := Lk.hid hown2
                  clear hown2 hgrow2
                  refine hK.out _ _ (HB2.out) (fun hHz25q => ?_)
                  clear hK K
                  refine wpAnyH_ready (rs := [11]) (by kernel_rfl) (by simp) ?_
                  refine AllReadyH.cons (o := ?oz26q) ?hz26q (fun K hK => ?rz26q) AllReadyH.nil
                  case hz26q => (simp; rfl)
                  case rz26q =>
                    refine Lk.step_append rfl _ _ 37 rfl w.heap.size 3 i0 (.int .i64 0) 1 8 Tryd.underlying37 HI0.out.1 HI0.out.2.1 HI0.out.2.2.1 HI0.out.2.2.2 rfl (by decide) v2 (i + 1) (Lk.numsV (l.take i) ++ [.int .i64 x]) rfl (HOWN2.out) _ (n - i) (c - i) (Lk.numsV (l.drop i)) rfl HNIL.out.2 HLEN.out.2 (HLIE.out.2.below HB2.out) (ints_oneCell .i64 _) (by unfold maxLen; omega) (by omega) (HB2.out.size) ?_
                    intro v3 W3 hown3 hgrow3
                    have HB3 := Lk.hid (Lk.belOwn (size := 1) (HB2.out) (HOWN2.out) (Nat.le_refl _) hgrow3)
                    have HOWN3 := Lk.hid hown3
                    clear hown3 hgrow3
                    refine hK.out _ _ (HB3.out) (fun hHz27q => ?_)
                    clear hK K
                    refine wpAnyH_take (i := 12) (oi := ?oz28q12) (v := ?vz28q12) ?hiz28q12 ?hsz28q12 ?hfz28q12 ?hrz28q12 ?hQz28q12 (Or.inl ⟨?hwz28q12, ?hyz28q12⟩) ?hSz28q12 ?restz28q12
                    case hiz28q12 => (simp; rfl)
                    case hsz28q12 => kernel_rfl
                    case hfz28q12 => kernel_rfl
                    case hrz28q12 => kernel_rfl
                    case hQz28q12 => exact fun _ _ _ h => h
                    case hwz28q12 => rfl
                    case hyz28q12 => (intro wq hSq; (try dsimp only at hSq); go_simp; (try with_reducible rfl))
                    case hSz28q12 => assumption
                    simp only [Act.put, List.setIfInBounds_toArray, List.set_cons_zero, List.set_cons_succ]
                    refine wpAnyH_done (by kernel_rfl) ?_ _
                    go_wp2_with fail
                    all_goals
                      go_ret
                      obtain ⟨p3, c3, rfl, hS3⟩ := Lk.Sl.own HOWN3.out
                      exact ⟨p3, c3, l.take i ++ [x] ++ l.drop i, by rw [(Lk.put_len x HN.out hi).1]; rfl, by rw [(Lk.put_len x HN.out hi).1, (Lk.put_len x HN.out hi).2]; exact hS3, HP.out, HB3.out⟩
          case rz9q =>
            go_simp
            refine hK.out _ _ ((Lk.Blk.new2 (Below.refl _ w) _ (g := w.heap.size) rfl).drew.bel) (fun hHz29q => ?_)
            clear hK K
            refine wpAnyH_ready (rs := [0]) (by kernel_rfl) (by simp) ?_
            refine AllReadyH.cons (o := ?oz30q) ?hz30q (fun K hK => ?rz30q) AllReadyH.nil
            case hz30q => (simp; rfl)
            case rz30q =>
              go_simp
              refine hK.out _ _ ((Lk.Blk.new2 (Lk.belAl (Below.refl _ w) _) _ (g := w.heap.size + 1) (by simp)).drew.bel) (fun hHz31q => ?_)
              clear hK K
              refine wpAnyH_ready (rs := [4]) (by kernel_rfl) (by simp) ?_
              refine AllReadyH.cons (o := ?oz32q) ?hz32q (fun K hK => ?rz32q) AllReadyH.nil
              case hz32q => (simp; rfl)
              case rz32q =>
                refine Lk.step_append rfl _ _ 37 rfl w.heap.size 3 i0 (.int .i64 0) 1 8 Tryd.underlying37 HI0.out.1 HI0.out.2.1 HI0.out.2.2.1 HI0.out.2.2.2 rfl (by decide) (.slice (some ⟨w.heap.size + 1, 0, none⟩) 0 0) 0 [] rfl (((Lk.Blk.new2 (Lk.belAl (Below.refl _ w) _) _ (g := w.heap.size + 1) (by simp)).drew).own) _ i c (Lk.numsV (l.take i)) rfl HNIL.out.1 HLEN.out.1 (HLIE.out.1.below ((Lk.Blk.new2 (Lk.belAl (Below.refl _ w) _) _ (g := w.heap.size + 1) (by simp)).drew).bel) (ints_oneCell .i64 _) (by unfold maxLen; omega) (by omega) (((Lk.Blk.new2 (Lk.belAl (Below.refl _ w) _) _ (g := w.heap.size + 1) (by simp)).drew).bel.size) ?_
                intro v1 W1 hown1 hgrow1
                rw [List.nil_append, Nat.zero_add] at hown1
                have HB1 := Lk.hid (Lk.belOwn (size := 1) ((Lk.Blk.new2 (Lk.belAl (Below.refl _ w) _) _ (g := w.heap.size + 1) (by simp)).drew).bel ((Lk.Blk.new2 (Lk.belAl (Below.refl _ w) _) _ (g := w.heap.size + 1) (by simp)).drew).own (Nat.le_refl _) hgrow1)
                have HOWN1 := Lk.hid hown1
                have HX1 := Lk.hid ((((Lk.Blk.new2 (Below.refl _ w) _ (g := w.heap.size) rfl).alloc _).drew).grown hgrow1 (by simp [Value.ownBlock]) (fun k hk => by cases hk; simp))
                clear hown1 hgrow1
                refine hK.out _ _ (HB1.out) (fun hHz33q => ?_)
                clear hK K
                refine wpAnyH_ready (rs := [7]) (by kernel_rfl) (by simp) ?_
                refine AllReadyH.cons (o := ?oz34q) ?hz34q (fun K hK => ?rz34q) AllReadyH.nil
                case hz34q => (simp; rfl)
                case rz34q =>
                  refine Lk.step_append rfl _ _ 37 rfl w.heap.size 3 i0 (.int .i64 0) 1 8 Tryd.underlying37 HI0.out.1 HI0.out.2.1 HI0.out.2.2.1 HI0.out.2.2.2 rfl (by decide) v1 i (Lk.numsV (l.take i)) rfl (HOWN1.out) (some ⟨w.heap.size, 0, none⟩) 1 1 [.int .i64 x] rfl (fun h => nomatch h) rfl (HX1.out.lies (cs := [.int .i64 x])) (ints_oneCell .i64 [x]) (by unfold maxLen; omega) (by omega) ((HB1.out).size) ?_
                  intro v2 W2 hown2 hgrow2
                  have HB2 := Lk.hid (Lk.belOwn (size := 1) (HB1.out) (HOWN1.out) (Nat.le_refl _) hgrow2)
                  have HOWN2 := Lk.hid hown2
                  clear hown2 hgrow2
                  refine hK.out _ _ (HB2.out) (fun hHz35q => ?_)
                  clear hK K
                  refine wpAnyH_ready (rs := [11]) (by kernel_rfl) (by simp) ?_
                  refine AllReadyH.cons (o := ?oz36q) ?hz36q (fun K hK => ?rz36q) AllReadyH.nil
                  case hz36q => (simp; rfl)
                  case rz36q =>
                    refine Lk.step_append rfl _ _ 37 rfl w.heap.size 3 i0 (.int .i64 0) 1 8 Tryd.underlying37 HI0.out.1 HI0.out.2.1 HI0.out.2.2.1 HI0.out.2.2.2 rfl (by decide) v2 (i + 1) (Lk.numsV (l.take i) ++ [.int .i64 x]) rfl (HOWN2.out) _ (n - i) (c - i) (Lk.numsV (l.drop i)) rfl HNIL.out.2 HLEN.out.2 (HLIE.out.2.below HB2.out) (ints_oneCell .i64 _) (by unfold maxLen; omega) (by omega) (HB2.out.size) ?_
                    intro v3 W3 hown3 hgrow3
                    have HB3 := Lk.hid (Lk.belOwn (size := 1) (HB2.out) (HOWN2.out) (Nat.le_refl _) hgrow3)
                    have HOWN3 := Lk.hid hown3
                    clear hown3 hgrow3
                    refine hK.out _ _ (HB3.out) (fun hHz37q => ?_)
                    clear hK K
                    refine wpAnyH_take (i := 12) (oi := ?oz38q12) (v := ?vz38q12) ?hiz38q12 ?hsz38q12 ?hfz38q12 ?hrz38q12 ?hQz38q12 (Or.inl ⟨?hwz38q12, ?hyz38q12⟩) ?hSz38q12 ?restz38q12
                    case hiz38q12 => (simp; rfl)
                    case hsz38q12 => kernel_rfl
                    case hfz38q12 => kernel_rfl
                    case hrz38q12 => kernel_rfl
                    case hQz38q12 => exact fun _ _ _ h => h
                    case hwz38q12 => rfl
                    case hyz38q12 => (intro wq hSq; (try dsimp only at hSq); go_simp; (try with_reducible rfl))
                    case hSz38q12 => assumption
                    simp only [Act.put, List.setIfInBounds_toArray, List.set_cons_zero, List.set_cons_succ]
                    refine wpAnyH_done (by kernel_rfl) ?_ _
                    go_wp2_with fail
                    all_goals
                      go_ret
                      obtain ⟨p3, c3, rfl, hS3⟩ := Lk.Sl.own HOWN3.out
                      exact ⟨p3, c3, l.take i ++ [x] ++ l.drop i, by rw [(Lk.put_len x HN.out hi).1]; rfl, by rw [(Lk.put_len x HN.out hi).1, (Lk.put_len x HN.out hi).2]; exact hS3, HP.out, HB3.out⟩
        · go_wp2_with fail
          go_ret
          exact ⟨_, c, l, by rw [← HN.out]; rfl, by rw [← HN.out]; exact hS.out, Lk.put_same (by rw [HA.out]; rw [show a = x from by simpa using he]), Below.refl _ _⟩
      · go_wp2_with fail
        refine ⟨⟨i + 1, by omega, by go_num, trivial, fun j z hj hz => ?_⟩, by simp [RowKit.intOf]; omega⟩
        by_cases e : j = i
        · subst e
          rw [HA.out] at hz
          cases hz
          simpa using ht
        · exact HI.out j z (by omega) hz
    · rcases p with _ | ad
      · have HP : Hid (Lk.PutR l x (l.take i ++ [x] ++ l.drop i)) := Lk.put_new (by rw [← HN.out]; exact hi) HI.out (by intro a2 h2; have := (List.getElem?_eq_some_iff.1 h2).1; rw [← HN.out] at this; omega)
        obtain ⟨HNIL, HLEN, HLIE⟩ : Hid _ ∧ Hid _ ∧ Hid _ := Lk.put_facts0 hS.out HN.out hi
        have hcap := hS.out.cap
        have gc0 : (0 : Int) ≤ (i : Int) := by omega
        have gc1 : (i : Int) ≤ (c : Int) := by omega
        have gc2 : (i : Int) ≤ (n : Int) := by omega
        have gc3 : (n : Int) ≤ (c : Int) := by omega
        go_wp2_with fail
        refine wp_region_held_drew (S := fun w' => Below w.heap.size w w') (by kernel_rfl) ((Below.refl _ _).drew) (fun hH => ?_)
        refine wpAnyH_take (i := 1) (oi := ?oy1q1) (v := ?vy1q1) ?hiy1q1 ?hsy1q1 ?hfy1q1 ?hry1q1 ?hQy1q1 (Or.inl ⟨?hwy1q1, ?hyy1q1⟩) ?hSy1q1 ?resty1q1
        case hiy1q1 => (simp; rfl)
        case hsy1q1 => kernel_rfl
        case hfy1q1 => kernel_rfl
        case hry1q1 => kernel_rfl
        case hQy1q1 => exact fun _ _ _ h => h
        case hwy1q1 => rfl
        case hyy1q1 => (intro wq hSq; (try dsimp only at hSq); go_simp; (try with_reducible rfl))
        case hSy1q1 => assumption
        simp only [Act.put, List.setIfInBounds_toArray, List.set_cons_zero, List.set_cons_succ]
        refine wpAnyH_take (i := 2) (oi := ?oy2q2) (v := ?vy2q2) ?hiy2q2 ?hsy2q2 ?hfy2q2 ?hry2q2 ?hQy2q2 (Or.inl ⟨?hwy2q2, ?hyy2q2⟩) ?hSy2q2 ?resty2q2
        case hiy2q2 => (simp; rfl)
        case hsy2q2 => kernel_rfl
        case hfy2q2 => kernel_rfl
        case hry2q2 => kernel_rfl
        case hQy2q2 => exact fun _ _ _ h => h
        case hwy2q2 => rfl
        case hyy2q2 => (intro wq hSq; (try dsimp only at hSq); go_simp; (try with_reducible rfl))
        case hSy2q2 => assumption
        simp only [Act.put, List.setIfInBounds_toArray, List.set_cons_zero, List.set_cons_succ]
        refine wpAnyH_take (i := 3) (oi := ?oy3q3) (v := ?vy3q3) ?hiy3q3 ?hsy3q3 ?hfy3q3 ?hry3q3 ?hQy3q3 (Or.inl ⟨?hwy3q3, ?hyy3q3⟩) ?hSy3q3 ?resty3q3
        case hiy3q3 => (simp; rfl)
        case hsy3q3 => kernel_rfl
        case hfy3q3 => kernel_rfl
        case hry3q3 => kernel_rfl
        case hQy3q3 => exact fun _ _ _ h => h
        case hwy3q3 => rfl
        case hyy3q3 => (intro wq hSq; (try dsimp only at hSq); go_simp; (try with_reducible rfl))
        case hSy3q3 => assumption
        simp only [Act.put, List.setIfInBounds_toArray, List.set_cons_zero, List.set_cons_succ]
        refine wpAnyH_take (i := 5) (oi := ?oy4q5) (v := ?vy4q5) ?hiy4q5 ?hsy4q5 ?hfy4q5 ?hry4q5 ?hQy4q5 (Or.inl ⟨?hwy4q5, ?hyy4q5⟩) ?hSy4q5 ?resty4q5
        case hiy4q5 => (simp; rfl)
        case hsy4q5 => kernel_rfl
        case hfy4q5 => kernel_rfl
        case hry4q5 => kernel_rfl
        case hQy4q5 => exact fun _ _ _ h => h
        case hwy4q5 => rfl
        case hyy4q5 => (intro wq hSq; (try dsimp only at hSq); go_simp; (try with_reducible rfl))
        case hSy4q5 => assumption
        simp only [Act.put, List.setIfInBounds_toArray, List.set_cons_zero, List.set_cons_succ]
        refine wpAnyH_take (i := 8) (oi := ?oy5q8) (v := ?vy5q8) ?hiy5q8 ?hsy5q8 ?hfy5q8 ?hry5q8 ?hQy5q8 (Or.inl ⟨?hwy5q8, ?hyy5q8⟩) ?hSy5q8 ?resty5q8
        case hiy5q8 => (simp; rfl)
        case hsy5q8 => kernel_rfl
        case hfy5q8 => kernel_rfl
        case hry5q8 => kernel_rfl
        case hQy5q8 => exact fun _ _ _ h => h
        case hwy5q8 => rfl
        case hyy5q8 => (intro wq hSq; (try dsimp only at hSq); go_simp; (try with_reducible rfl))
        case hSy5q8 => assumption
        simp only [Act.put, List.setIfInBounds_toArray, List.set_cons_zero, List.set_cons_succ]
        refine wpAnyH_take (i := 9) (oi := ?oy6q9) (v := ?vy6q9) ?hiy6q9 ?hsy6q9 ?hfy6q9 ?hry6q9 ?hQy6q9 (Or.inl ⟨?hwy6q9, ?hyy6q9⟩) ?hSy6q9 ?resty6q9
        case hiy6q9 => (simp; rfl)
        case hsy6q9 => kernel_rfl
        case hfy6q9 => kernel_rfl
        case hry6q9 => kernel_rfl
        case hQy6q9 => exact fun _ _ _ h => h
        case hwy6q9 => rfl
        case hyy6q9 => (intro wq hSq; (try dsimp only at hSq); go_simp; (try with_reducible rfl))
        case hSy6q9 => assumption
        simp only [Act.put, List.setIfInBounds_toArray, List.set_cons_zero, List.set_cons_succ]
        refine wpAnyH_take (i := 10) (oi := ?oy7q10) (v := ?vy7q10) ?hiy7q10 ?hsy7q10 ?hfy7q10 ?hry7q10 ?hQy7q10 (Or.inl ⟨?hwy7q10, ?hyy7q10⟩) ?hSy7q10 ?resty7q10
        case hiy7q10 => (simp; rfl)
        case hsy7q10 => kernel_rfl
        case hfy7q10 => kernel_rfl
        case hry7q10 => kernel_rfl
        case hQy7q10 => exact fun _ _ _ h => h
        case hwy7q10 => rfl
        case hyy7q10 => (intro wq hSq; (try dsimp only at hSq); go_simp; (try with_reducible rfl))
        case hSy7q10 => assumption
        simp only [Act.put, List.setIfInBounds_toArray, List.set_cons_zero, List.set_cons_succ]
        refine wpAnyH_ready (rs := [0, 6]) (by kernel_rfl) (by simp) ?_
        refine AllReadyH.cons (o := ?oy8q) ?hy8q (fun K hK => ?ry8q) (AllReadyH.cons (o := ?oy9q) ?hy9q (fun K hK => ?ry9q) AllReadyH.nil)
        case hy8q => (simp; rfl)
        case hy9q => (simp; rfl)
        case ry8q =>
          go_simp
          refine hK.out _ _ ((Lk.Blk.new2 (Below.refl _ w) _ (g := w.heap.size) rfl).drew.bel) (fun hHy10q => ?_)
          clear hK K
          refine wpAnyH_ready (rs := [4, 6]) (by kernel_rfl) (by simp) ?_
          refine AllReadyH.cons (o := ?oy11q) ?hy11q (fun K hK => ?ry11q) (AllReadyH.cons (o := ?oy12q) ?hy12q (fun K hK => ?ry12q) AllReadyH.nil)
          case hy11q => (simp; rfl)
          case hy12q => (simp; rfl)
          case ry11q =>
            refine Lk.step_append rfl _ _ 37 rfl w.heap.size 3 i0 (.int .i64 0) 1 8 Tryd.underlying37 HI0.out.1 HI0.out.2.1 HI0.out.2.2.1 HI0.out.2.2.2 rfl (by decide) (.slice (some ⟨w.heap.size, 0, none⟩) 0 0) 0 [] rfl (((Lk.Blk.new2 (Below.refl _ w) _ (g := w.heap.size) rfl).drew).own) _ i c (Lk.numsV (l.take i)) rfl (fun _ => HNIL.out.1) HLEN.out.1 (HLIE.out.1.below ((Lk.Blk.new2 (Below.refl _ w) _ (g := w.heap.size) rfl).drew).bel) (ints_oneCell .i64 _) (by unfold maxLen; omega) (by omega) (((Lk.Blk.new2 (Below.refl _ w) _ (g := w.heap.size) rfl).drew).bel.size) ?_
            intro v1 W1 hown1 hgrow1
            rw [List.nil_append, Nat.zero_add] at hown1
            have HB1 := Lk.hid (Lk.belOwn (size := 1) ((Lk.Blk.new2 (Below.refl _ w) _ (g := w.heap.size) rfl).drew).bel ((Lk.Blk.new2 (Below.refl _ w) _ (g := w.heap.size) rfl).drew).own (Nat.le_refl _) hgrow1)
            have HOWN1 := Lk.hid hown1
            clear hown1 hgrow1
            refine hK.out _ _ (HB1.out) (fun hHy13q => ?_)
            clear hK K
            refine wpAnyH_ready (rs := [6]) (by kernel_rfl) (by simp) ?_
            refine AllReadyH.cons (o := ?oy14q) ?hy14q (fun K hK => ?ry14q) AllReadyH.nil
            case hy14q => (simp; rfl)
            case ry14q =>
              go_simp
              refine hK.out _ _ (Lk.belAl HB1.out _) (fun hHy15q => ?_)
              clear hK K
              refine wpAnyH_ready (rs := [7]) (by kernel_rfl) (by simp) ?_
              refine AllReadyH.cons (o := ?oy16q) ?hy16q (fun K hK => ?ry16q) AllReadyH.nil
              case hy16q => (simp; rfl)
              case ry16q =>
                refine Lk.step_append rfl _ _ 37 rfl w.heap.size 3 i0 (.int .i64 0) 1 8 Tryd.underlying37 HI0.out.1 HI0.out.2.1 HI0.out.2.2.1 HI0.out.2.2.2 rfl (by decide) v1 i (Lk.numsV (l.take i)) rfl (HOWN1.out.alloc _) (some ⟨W1.heap.size, 0, none⟩) 1 1 [.int .i64 x] rfl (fun h => nomatch h) rfl ((Lk.Blk.new HB1.out _).lies (cs := [.int .i64 x])) (ints_oneCell .i64 [x]) (by unfold maxLen; omega) (by omega) ((Lk.belAl HB1.out _).size) ?_
                intro v2 W2 hown2 hgrow2
                have HB2 := Lk.hid (Lk.belOwn (size := 1) (Lk.belAl HB1.out _) (HOWN1.out.alloc _) (Nat.le_refl _) hgrow2)
                have HOWN2 := Lk.hid hown2
                clear hown2 hgrow2
                refine hK.out _ _ (HB2.out) (fun hHy17q => ?_)
                clear hK K
                refine wpAnyH_ready (rs := [11]) (by kernel_rfl) (by simp) ?_
                refine AllReadyH.cons (o := ?oy18q) ?hy18q (fun K hK => ?ry18q) AllReadyH.nil
                case hy18q => (simp; rfl)
                case ry18q =>
                  refine Lk.step_append rfl _ _ 37 rfl w.heap.size 3 i0 (.int .i64 0) 1 8 Tryd.underlying37 HI0.out.1 HI0.out.2.1 HI0.out.2.2.1 HI0.out.2.2.2 rfl (by decide) v2 (i + 1) (Lk.numsV (l.take i) ++ [.int .i64 x]) rfl (HOWN2.out) _ (n - i) (c - i) (Lk.numsV (l.drop i)) rfl (fun _ => HNIL.out.2) HLEN.out.2 (HLIE.out.2.below HB2.out) (ints_oneCell .i64 _) (by unfold maxLen; omega) (by omega) (HB2.out.size) ?_
                  intro v3 W3 hown3 hgrow3
                  have HB3 := Lk.hid (Lk.belOwn (size := 1) (HB2.out) (HOWN2.out) (Nat.le_refl _) hgrow3)
                  have HOWN3 := Lk.hid hown3
                  clear hown3 hgrow3
                  refine hK.out _ _ (HB3.out) (fun hHy19q => ?_)
                  clear hK K
                  refine wpAnyH_take (i := 12) (oi := ?oy20q12) (v := ?vy20q12) ?hiy20q12 ?hsy20q12 ?hfy20q12 ?hry20q12 ?hQy20q12 (Or.inl ⟨?hwy20q12, ?hyy20q12⟩) ?hSy20q12 ?resty20q12
                  case hiy20q12 => (simp; rfl)
                  case hsy20q12 => kernel_rfl
                  case hfy20q12 => kernel_rfl
                  case hry20q12 => kernel_rfl
                  case hQy20q12 => exact fun _ _ _ h => h
                  case hwy20q12 => rfl
                  case hyy20q12 => (intro wq hSq; (try dsimp only at hSq); go_simp; (try with_reducible rfl))
                  case hSy20q12 => assumption
                  simp only [Act.put, List.setIfInBounds_toArray, List.set_cons_zero, List.set_cons_succ]
                  refine wpAnyH_done (by kernel_rfl) ?_ _
                  go_wp2_with fail
                  all_goals
                    go_ret
                    obtain ⟨p3, c3, rfl, hS3⟩ := Lk.Sl.own HOWN3.out
                    exact ⟨p3, c3, l.take i ++ [x] ++ l.drop i, by rw [(Lk.put_len x HN.out hi).1]; rfl, by rw [(Lk.put_len x HN.out hi).1, (Lk.put_len x HN.out hi).2]; exact hS3, HP.out, HB3.out⟩
          case ry12q =>
            go_simp
            refine hK.out _ _ ((Lk.Blk.new2 (Lk.belAl (Below.refl _ w) _) _ (g := w.heap.size + 1) (by simp)).drew.bel) (fun hHy21q => ?_)
            clear hK K
            refine wpAnyH_ready (rs := [4]) (by kernel_rfl) (by simp) ?_
            refine AllReadyH.cons (o := ?oy22q) ?hy22q (fun K hK => ?ry22q) AllReadyH.nil
            case hy22q => (simp; rfl)
            case ry22q =>
              refine Lk.step_append rfl _ _ 37 rfl w.heap.size 3 i0 (.int .i64 0) 1 8 Tryd.underlying37 HI0.out.1 HI0.out.2.1 HI0.out.2.2.1 HI0.out.2.2.2 rfl (by decide) (.slice (some ⟨w.heap.size, 0, none⟩) 0 0) 0 [] rfl ((((Lk.Blk.new2 (Below.refl _ w) _ (g := w.heap.size) rfl).alloc _).drew).own) _ i c (Lk.numsV (l.take i)) rfl (fun _ => HNIL.out.1) HLEN.out.1 (HLIE.out.1.below (((Lk.Blk.new2 (Below.refl _ w) _ (g := w.heap.size) rfl).alloc _).drew).bel) (ints_oneCell .i64 _) (by unfold maxLen; omega) (by omega) ((((Lk.Blk.new2 (Below.refl _ w) _ (g := w.heap.size) rfl).alloc _).drew).bel.size) ?_
              intro v1 W1 hown1 hgrow1
              rw [List.nil_append, Nat.zero_add] at hown1
              have HB1 := Lk.hid (Lk.belOwn (size := 1) (((Lk.Blk.new2 (Below.refl _ w) _ (g := w.heap.size) rfl).alloc _).drew).bel (((Lk.Blk.new2 (Below.refl _ w) _ (g := w.heap.size) rfl).alloc _).drew).own (Nat.le_refl _) hgrow1)
              have HOWN1 := Lk.hid hown1
              have HX1 := Lk.hid (((Lk.Blk.new2 (Lk.belAl (Below.refl _ w) _) _ (g := w.heap.size + 1) (by simp)).drew).grown hgrow1 (by simp [Value.ownBlock]) (fun k hk => by cases hk; exact Nat.le_refl _))
              clear hown1 hgrow1
              refine hK.out _ _ (HB1.out) (fun hHy23q => ?_)
              clear hK K
              refine wpAnyH_ready (rs := [7]) (by kernel_rfl) (by simp) ?_
              refine AllReadyH.cons (o := ?oy24q) ?hy24q (fun K hK => ?ry24q) AllReadyH.nil
              case hy24q => (simp; rfl)
              case ry24q =>
                refine Lk.step_append rfl _ _ 37 rfl w.heap.size 3 i0 (.int .i64 0) 1 8 Tryd.underlying37 HI0.out.1 HI0.out.2.1 HI0.out.2.2.1 HI0.out.2.2.2 rfl (by decide) v1 i (Lk.numsV (l.take i)) rfl (HOWN1.out) (some ⟨w.heap.size + 1, 0, none⟩) 1 1 [.int .i64 x] rfl (fun h => nomatch h) rfl (HX1.out.lies (cs := [.int .i64 x])) (ints_oneCell .i64 [x]) (by unfold maxLen; omega) (by omega) ((HB1.out).size) ?_
                intro v2 W2 hown2 hgrow2
                have HB2 := Lk.hid (Lk.belOwn (size := 1) (HB1.out) (HOWN1.out) (Nat.le_refl _) hgrow2)
                have HOWN2 := Lk.hid hown2
                clear hown2 hgrow2
                refine hK.out _ _ (HB2.out) (fun hHy25q => ?_)
                clear hK K
                refine wpAnyH_ready (rs := [11]) (by kernel_rfl) (by simp) ?_
                refine AllReadyH.cons (o := ?oy26q) ?hy26q (fun K hK => ?ry26q) AllReadyH.nil
                case hy26q => (simp; rfl)
                case ry26q =>
                  refine Lk.step_append rfl _ _ 37 rfl w.heap.size 3 i0 (.int .i64 0) 1 8 Tryd.underlying37 HI0.out.1 HI0.out.2.1 HI0.out.2.2.1 HI0.out.2.2.2 rfl (by decide) v2 (i + 1) (Lk.numsV (l.take i) ++ [.int .i64 x]) rfl (HOWN2.out) _ (n - i) (c - i) (Lk.numsV (l.drop i)) rfl (fun _ => HNIL.out.2) HLEN.out.2 (HLIE.out.2.below HB2.out) (ints_oneCell .i64 _) (by unfold maxLen; omega) (by omega) (HB2.out.size) ?_
                  intro v3 W3 hown3 hgrow3
                  have HB3 := Lk.hid (Lk.belOwn (size := 1) (HB2.out) (HOWN2.out) (Nat.le_refl _) hgrow3)
                  have HOWN3 := Lk.hid hown3
                  clear hown3 hgrow3
                  refine hK.out _ _ (HB3.out) (fun hHy27q => ?_)
                  clear hK K
                  refine wpAnyH_take (i := 12) (oi := ?oy28q12) (v := ?vy28q12) ?hiy28q12 ?hsy28q12 ?hfy28q12 ?hry28q12 ?hQy28q12 (Or.inl ⟨?hwy28q12, ?hyy28q12⟩) ?hSy28q12 ?resty28q12
                  case hiy28q12 => (simp; rfl)
                  case hsy28q12 => kernel_rfl
                  case hfy28q12 => kernel_rfl
                  case hry28q12 => kernel_rfl
                  case hQy28q12 => exact fun _ _ _ h => h
                  case hwy28q12 => rfl
                  case hyy28q12 => (intro wq hSq; (try dsimp only at hSq); go_simp; (try with_reducible rfl))
                  case hSy28q12 => assumption
                  simp only [Act.put, List.setIfInBounds_toArray, List.set_cons_zero, List.set_cons_succ]
                  refine wpAnyH_done (by kernel_rfl) ?_ _
                  go_wp2_with fail
                  all_goals
                    go_ret
                    obtain ⟨p3, c3, rfl, hS3⟩ := Lk.Sl.own HOWN3.out
                    exact ⟨p3, c3, l.take i ++ [x] ++ l.drop i, by rw [(Lk.put_len x HN.out hi).1]; rfl, by rw [(Lk.put_len x HN.out hi).1, (Lk.put_len x HN.out hi).2]; exact hS3, HP.out, HB3.out⟩
        case ry9q =>
          go_simp
          refine hK.out _ _ ((Lk.Blk.new2 (Below.refl _ w) _ (g := w.heap.size) rfl).drew.bel) (fun hHy29q => ?_)
          clear hK K
          refine wpAnyH_ready (rs := [0]) (by kernel_rfl) (by simp) ?_
          refine AllReadyH.cons (o := ?oy30q) ?hy30q (fun K hK => ?ry30q) AllReadyH.nil
          case hy30q => (simp; rfl)
          case ry30q =>
            go_simp
            refine hK.out _ _ ((Lk.Blk.new2 (Lk.belAl (Below.refl _ w) _) _ (g := w.heap.size + 1) (by simp)).drew.bel) (fun hHy31q => ?_)
            clear hK K
            refine wpAnyH_ready (rs := [4]) (by kernel_rfl) (by simp) ?_
            refine AllReadyH.cons (o := ?oy32q) ?hy32q (fun K hK => ?ry32q) AllReadyH.nil
            case hy32q => (simp; rfl)
            case ry32q =>
              refine Lk.step_append rfl _ _ 37 rfl w.heap.size 3 i0 (.int .i64 0) 1 8 Tryd.underlying37 HI0.out.1 HI0.out.2.1 HI0.out.2.2.1 HI0.out.2.2.2 rfl (by decide) (.slice (some ⟨w.heap.size + 1, 0, none⟩) 0 0) 0 [] rfl (((Lk.Blk.new2 (Lk.belAl (Below.refl _ w) _) _ (g := w.heap.size + 1) (by simp)).drew).own) _ i c (Lk.numsV (l.take i)) rfl (fun _ => HNIL.out.1) HLEN.out.1 (HLIE.out.1.below ((Lk.Blk.new2 (Lk.belAl (Below.refl _ w) _) _ (g := w.heap.size + 1) (by simp)).drew).bel) (ints_oneCell .i64 _) (by unfold maxLen; omega) (by omega) (((Lk.Blk.new2 (Lk.belAl (Below.refl _ w) _) _ (g := w.heap.size + 1) (by simp)).drew).bel.size) ?_
              intro v1 W1 hown1 hgrow1
              rw [List.nil_append, Nat.zero_add] at hown1
              have HB1 := Lk.hid (Lk.belOwn (size := 1) ((Lk.Blk.new2 (Lk.belAl (Below.refl _ w) _) _ (g := w.heap.size + 1) (by simp)).drew).bel ((Lk.Blk.new2 (Lk.belAl (Below.refl _ w) _) _ (g := w.heap.size + 1) (by simp)).drew).own (Nat.le_refl _) hgrow1)
              have HOWN1 := Lk.hid hown1
              have HX1 := Lk.hid ((((Lk.Blk.new2 (Below.refl _ w) _ (g := w.heap.size) rfl).alloc _).drew).grown hgrow1 (by simp [Value.ownBlock]) (fun k hk => by cases hk; simp))
              clear hown1 hgrow1
              refine hK.out _ _ (HB1.out) (fun hHy33q => ?_)
              clear hK K
              refine wpAnyH_ready (rs := [7]) (by kernel_rfl) (by simp) ?_
              refine AllReadyH.cons (o := ?oy34q) ?hy34q (fun K hK => ?ry34q) AllReadyH.nil
              case hy34q => (simp; rfl)
              case ry34q =>
                refine Lk.step_append rfl _ _ 37 rfl w.heap.size 3 i0 (.int .i64 0) 1 8 Tryd.underlying37 HI0.out.1 HI0.out.2.1 HI0.out.2.2.1 HI0.out.2.2.2 rfl (by decide) v1 i (Lk.numsV (l.take i)) rfl (HOWN1.out) (some ⟨w.heap.size, 0, none⟩) 1 1 [.int .i64 x] rfl (fun h => nomatch h) rfl (HX1.out.lies (cs := [.int .i64 x])) (ints_oneCell .i64 [x]) (by unfold maxLen; omega) (by omega) ((HB1.out).size) ?_
                intro v2 W2 hown2 hgrow2
                have HB2 := Lk.hid (Lk.belOwn (size := 1) (HB1.out) (HOWN1.out) (Nat.le_refl _) hgrow2)
                have HOWN2 := Lk.hid hown2
                clear hown2 hgrow2
                refine hK.out _ _ (HB2.out) (fun hHy35q => ?_)
                clear hK K
                refine wpAnyH_ready (rs := [11]) (by kernel_rfl) (by simp) ?_
                refine AllReadyH.cons (o := ?oy36q) ?hy36q (fun K hK => ?ry36q) AllReadyH.nil
                case hy36q => (simp; rfl)
                case ry36q =>
                  refine Lk.step_append rfl _ _ 37 rfl w.heap.size 3 i0 (.int .i64 0) 1 8 Tryd.underlying37 HI0.out.1 HI0.out.2.1 HI0.out.2.2.1 HI0.out.2.2.2 rfl (by decide) v2 (i + 1) (Lk.numsV (l.take i) ++ [.int .i64 x]) rfl (HOWN2.out) _ (n - i) (c - i) (Lk.numsV (l.drop i)) rfl (fun _ => HNIL.out.2) HLEN.out.2 (HLIE.out.2.below HB2.out) (ints_oneCell .i64 _) (by unfold maxLen; omega) (by omega) (HB2.out.size) ?_
                  intro v3 W3 hown3 hgrow3
                  have HB3 := Lk.hid (Lk.belOwn (size := 1) (HB2.out) (HOWN2.out) (Nat.le_refl _) hgrow3)
                  have HOWN3 := Lk.hid hown3
                  clear hown3 hgrow3
                  refine hK.out _ _ (HB3.out) (fun hHy37q => ?_)
                  clear hK K
                  refine wpAnyH_take (i := 12) (oi := ?oy38q12) (v := ?vy38q12) ?hiy38q12 ?hsy38q12 ?hfy38q12 ?hry38q12 ?hQy38q12 (Or.inl ⟨?hwy38q12, ?hyy38q12⟩) ?hSy38q12 ?resty38q12
                  case hiy38q12 => (simp; rfl)
                  case hsy38q12 => kernel_rfl
                  case hfy38q12 => kernel_rfl
                  case hry38q12 => kernel_rfl
                  case hQy38q12 => exact fun _ _ _ h => h
                  case hwy38q12 => rfl
                  case hyy38q12 => (intro wq hSq; (try dsimp only at hSq); go_simp; (try with_reducible rfl))
                  case hSy38q12 => assumption
                  simp only [Act.put, List.setIfInBounds_toArray, List.set_cons_zero, List.set_cons_succ]
                  refine wpAnyH_done (by kernel_rfl) ?_ _
                  go_wp2_with fail
                  all_goals
                    go_ret
                    obtain ⟨p3, c3, rfl, hS3⟩ := Lk.Sl.own HOWN3.out
                    exact ⟨p3, c3, l.take i ++ [x] ++ l.drop i, by rw [(Lk.put_len x HN.out hi).1]; rfl, by rw [(Lk.put_len x HN.out hi).1, (Lk.put_len x HN.out hi).2]; exact hS3, HP.out, HB3.out⟩
      · obtain ⟨b, rfl⟩ := hS.out.zero ad rfl
        have HP : Hid (Lk.PutR l x (l.take i ++ [x] ++ l.drop i)) := Lk.put_new (by rw [← HN.out]; exact hi) HI.out (by intro a2 h2; have := (List.getElem?_eq_some_iff.1 h2).1; rw [← HN.out] at this; omega)
        obtain ⟨HNIL, HLEN, HLIE⟩ : Hid _ ∧ Hid _ ∧ Hid _ := Lk.put_facts hS.out HN.out hi
        have hcap := hS.out.cap
        have gc0 : (0 : Int) ≤ (i : Int) := by omega
        have gc1 : (i : Int) ≤ (c : Int) := by omega
        have gc2 : (i : Int) ≤ (n : Int) := by omega
        have gc3 : (n : Int) ≤ (c : Int) := by omega
        go_wp2_with fail
        refine wp_region_held_drew (S := fun w' => Below w.heap.size w w') (by kernel_rfl) ((Below.refl _ _).drew) (fun hH => ?_)
        refine wpAnyH_take (i := 1) (oi := ?ox1q1) (v := ?vx1q1) ?hix1q1 ?hsx1q1 ?hfx1q1 ?hrx1q1 ?hQx1q1 (Or.inl ⟨?hwx1q1, ?hyx1q1⟩) ?hSx1q1 ?restx1q1
        case hix1q1 => (simp; rfl)
        case hsx1q1 => kernel_rfl
        case hfx1q1 => kernel_rfl
        case hrx1q1 => kernel_rfl
        case hQx1q1 => exact fun _ _ _ h => h
        case hwx1q1 => rfl
        case hyx1q1 => (intro wq hSq; (try dsimp only at hSq); go_simp; (try with_reducible rfl))
        case hSx1q1 => assumption
        simp only [Act.put, List.setIfInBounds_toArray, List.set_cons_zero, List.set_cons_succ]
        refine wpAnyH_take (i := 2) (oi := ?ox2q2) (v := ?vx2q2) ?hix2q2 ?hsx2q2 ?hfx2q2 ?hrx2q2 ?hQx2q2 (Or.inl ⟨?hwx2q2, ?hyx2q2⟩) ?hSx2q2 ?restx2q2
        case hix2q2 => (simp; rfl)
        case hsx2q2 => kernel_rfl
        case hfx2q2 => kernel_rfl
        case hrx2q2 => kernel_rfl
        case hQx2q2 => exact fun _ _ _ h => h
        case hwx2q2 => rfl
        case hyx2q2 => (intro wq hSq; (try dsimp only at hSq); go_simp; (try with_reducible rfl))
        case hSx2q2 => assumption
        simp only [Act.put, List.setIfInBounds_toArray, List.set_cons_zero, List.set_cons_succ]
        refine wpAnyH_take (i := 3) (oi := ?ox3q3) (v := ?vx3q3) ?hix3q3 ?hsx3q3 ?hfx3q3 ?hrx3q3 ?hQx3q3 (Or.inl ⟨?hwx3q3, ?hyx3q3⟩) ?hSx3q3 ?restx3q3
        case hix3q3 => (simp; rfl)
        case hsx3q3 => kernel_rfl
        case hfx3q3 => kernel_rfl
        case hrx3q3 => kernel_rfl
        case hQx3q3 => exact fun _ _ _ h => h
        case hwx3q3 => rfl
        case hyx3q3 => (intro wq hSq; (try dsimp only at hSq); go_simp; (try with_reducible rfl))
        case hSx3q3 => assumption
        simp only [Act.put, List.setIfInBounds_toArray, List.set_cons_zero, List.set_cons_succ]
        refine wpAnyH_take (i := 5) (oi := ?ox4q5) (v := ?vx4q5) ?hix4q5 ?hsx4q5 ?hfx4q5 ?hrx4q5 ?hQx4q5 (Or.inl ⟨?hwx4q5, ?hyx4q5⟩) ?hSx4q5 ?restx4q5
        case hix4q5 => (simp; rfl)
        case hsx4q5 => kernel_rfl
        case hfx4q5 => kernel_rfl
        case hrx4q5 => kernel_rfl
        case hQx4q5 => exact fun _ _ _ h => h
        case hwx4q5 => rfl
        case hyx4q5 => (intro wq hSq; (try dsimp only at hSq); go_simp; (try with_reducible rfl))
        case hSx4q5 => assumption
        simp only [Act.put, List.setIfInBounds_toArray, List.set_cons_zero, List.set_cons_succ]
        refine wpAnyH_take (i := 8) (oi := ?ox5q8) (v := ?vx5q8) ?hix5q8 ?hsx5q8 ?hfx5q8 ?hrx5q8 ?hQx5q8 (Or.inl ⟨?hwx5q8, ?hyx5q8⟩) ?hSx5q8 ?restx5q8
        case hix5q8 => (simp; rfl)
        case hsx5q8 => kernel_rfl
        case hfx5q8 => kernel_rfl
        case hrx5q8 => kernel_rfl
        case hQx5q8 => exact fun _ _ _ h => h
        case hwx5q8 => rfl
        case hyx5q8 => (intro wq hSq; (try dsimp only at hSq); go_simp; (try with_reducible rfl))
        case hSx5q8 => assumption
        simp only [Act.put, List.setIfInBounds_toArray, List.set_cons_zero, List.set_cons_succ]
        refine wpAnyH_take (i := 9) (oi := ?ox6q9) (v := ?vx6q9) ?hix6q9 ?hsx6q9 ?hfx6q9 ?hrx6q9 ?hQx6q9 (Or.inl ⟨?hwx6q9, ?hyx6q9⟩) ?hSx6q9 ?restx6q9
        case hix6q9 => (simp; rfl)
        case hsx6q9 => kernel_rfl
        case hfx6q9 => kernel_rfl
        case hrx6q9 => kernel_rfl
        case hQx6q9 => exact fun _ _ _ h => h
        case hwx6q9 => rfl
        case hyx6q9 => (intro wq hSq; (try dsimp only at hSq); go_simp; (try with_reducible rfl))
        case hSx6q9 => assumption
        simp only [Act.put, List.setIfInBounds_toArray, List.set_cons_zero, List.set_cons_succ]
        refine wpAnyH_take (i := 10) (oi := ?ox7q10) (v := ?vx7q10) ?hix7q10 ?hsx7q10 ?hfx7q10 ?hrx7q10 ?hQx7q10 (Or.inl ⟨?hwx7q10, ?hyx7q10⟩) ?hSx7q10 ?restx7q10
        case hix7q10 => (simp; rfl)
        case hsx7q10 => kernel_rfl
        case hfx7q10 => kernel_rfl
        case hrx7q10 => kernel_rfl
        case hQx7q10 => exact fun _ _ _ h => h
        case hwx7q10 => rfl
        case hyx7q10 => (intro wq hSq; (try dsimp only at hSq); go_simp; (try with_reducible rfl))
        case hSx7q10 => assumption
        simp only [Act.put, List.setIfInBounds_toArray, List.set_cons_zero, List.set_cons_succ]
        refine wpAnyH_ready (rs := [0, 6]) (by kernel_rfl) (by simp) ?_
        refine AllReadyH.cons (o := ?ox8q) ?hx8q (fun K hK => ?rx8q) (AllReadyH.cons (o := ?ox9q) ?hx9q (fun K hK => ?rx9q) AllReadyH.nil)
        case hx8q => (simp; rfl)
        case hx9q => (simp; rfl)
        case rx8q =>
          go_simp
          refine hK.out _ _ ((Lk.Blk.new2 (Below.refl _ w) _ (g := w.heap.size) rfl).drew.bel) (fun hHx10q => ?_)
          clear hK K
          refine wpAnyH_ready (rs := [4, 6]) (by kernel_rfl) (by simp) ?_
          refine AllReadyH.cons (o := ?ox11q) ?hx11q (fun K hK => ?rx11q) (AllReadyH.cons (o := ?ox12q) ?hx12q (fun K hK => ?rx12q) AllReadyH.nil)
          case hx11q => (simp; rfl)
          case hx12q => (simp; rfl)
          case rx11q =>
            refine Lk.step_append rfl _ _ 37 rfl w.heap.size 3 i0 (.int .i64 0) 1 8 Tryd.underlying37 HI0.out.1 HI0.out.2.1 HI0.out.2.2.1 HI0.out.2.2.2 rfl (by decide) (.slice (some ⟨w.heap.size, 0, none⟩) 0 0) 0 [] rfl (((Lk.Blk.new2 (Below.refl _ w) _ (g := w.heap.size) rfl).drew).own) _ i c (Lk.numsV (l.take i)) rfl HNIL.out.1 HLEN.out.1 (HLIE.out.1.below ((Lk.Blk.new2 (Below.refl _ w) _ (g := w.heap.size) rfl).drew).bel) (ints_oneCell .i64 _) (by unfold maxLen; omega) (by omega) (((Lk.Blk.new2 (Below.refl _ w) _ (g := w.heap.size) rfl).drew).bel.size) ?_
            intro v1 W1 hown1 hgrow1
            rw [List.nil_append, Nat.zero_add] at hown1
            have HB1 := Lk.hid (Lk.belOwn (size := 1) ((Lk.Blk.new2 (Below.refl _ w) _ (g := w.heap.size) rfl).drew).bel ((Lk.Blk.new2 (Below.refl _ w) _ (g := w.heap.size) rfl).drew).own (Nat.le_refl _) hgrow1)
            have HOWN1 := Lk.hid hown1
            clear hown1 hgrow1
            refine hK.out _ _ (HB1.out) (fun hHx13q => ?_)
            clear hK K
            refine wpAnyH_ready (rs := [6]) (by kernel_rfl) (by simp) ?_
            refine AllReadyH.cons (o := ?ox14q) ?hx14q (fun K hK => ?rx14q) AllReadyH.nil
            case hx14q => (simp; rfl)
            case rx14q =>
              go_simp
              refine hK.out _ _ (Lk.belAl HB1.out _) (fun hHx15q => ?_)
              clear hK K
              refine wpAnyH_ready (rs := [7]) (by kernel_rfl) (by simp) ?_
              refine AllReadyH.cons (o := ?ox16q) ?hx16q (fun K hK => ?rx16q) AllReadyH.nil
              case hx16q => (simp; rfl)
              case rx16q =>
                refine Lk.step_append rfl _ _ 37 rfl w.heap.size 3 i0 (.int .i64 0) 1 8 Tryd.underlying37 HI0.out.1 HI0.out.2.1 HI0.out.2.2.1 HI0.out.2.2.2 rfl (by decide) v1 i (Lk.numsV (l.take i)) rfl (HOWN1.out.alloc _) (some ⟨W1.heap.size, 0, none⟩) 1 1 [.int .i64 x] rfl (fun h => nomatch h) rfl ((Lk.Blk.new HB1.out _).lies (cs := [.int .i64 x])) (ints_oneCell .i64 [x]) (by unfold maxLen; omega) (by omega) ((Lk.belAl HB1.out _).size) ?_
                intro v2 W2 hown2 hgrow2
                have HB2 := Lk.hid (Lk.belOwn (size := 1) (Lk.belAl HB1.out _) (HOWN1.out.alloc _) (Nat.le_refl _) hgrow2)
                have HOWN2 := Lk.hid hown2
                clear hown2 hgrow2
                refine hK.out _ _ (HB2.out) (fun hHx17q => ?_)
                clear hK K
                refine wpAnyH_ready (rs := [11]) (by kernel_rfl) (by simp) ?_
                refine AllReadyH.cons (o := ?ox18q) ?hx18q (fun K hK => ?rx18q) AllReadyH.nil
                case hx18q => (simp; rfl)
                case rx18q =>
                  refine Lk.step_append rfl _ _ 37 rfl w.heap.size 3 i0 (.int .i64 0) 1 8 Tryd.underlying37 HI0.out.1 HI0.out.2.1 HI0.out.2.2.1 HI0.out.2.2.2 rfl (by decide) v2 (i + 1) (Lk.numsV (l.take i) ++ [.int .i64 x]) rfl (HOWN2.out) _ (n - i) (c - i) (Lk.numsV (l.drop i)) rfl HNIL.out.2 HLEN.out.2 (HLIE.out.2.below HB2.out) (ints_oneCell .i64 _) (by unfold maxLen; omega) (by omega) (HB2.out.size) ?_
                  intro v3 W3 hown3 hgrow3
                  have HB3 := Lk.hid (Lk.belOwn (size := 1) (HB2.out) (HOWN2.out) (Nat.le_refl _) hgrow3)
                  have HOWN3 := Lk.hid hown3
                  clear hown3 hgrow3
                  refine hK.out _ _ (HB3.out) (fun hHx19q => ?_)
                  clear hK K
                  refine wpAnyH_take (i := 12) (oi := ?ox20q12) (v := ?vx20q12) ?hix20q12 ?hsx20q12 ?hfx20q12 ?hrx20q12 ?hQx20q12 (Or.inl ⟨?hwx20q12, ?hyx20q12⟩) ?hSx20q12 ?restx20q12
                  case hix20q12 => (simp; rfl)
                  case hsx20q12 => kernel_rfl
                  case hfx20q12 => kernel_rfl
                  case hrx20q12 => kernel_rfl
                  case hQx20q12 => exact fun _ _ _ h => h
                  case hwx20q12 => rfl
                  case hyx20q12 => (intro wq hSq; (try dsimp only at hSq); go_simp; (try with_reducible rfl))
                  case hSx20q12 => assumption
                  simp only [Act.put, List.setIfInBounds_toArray, List.set_cons_zero, List.set_cons_succ]
                  refine wpAnyH_done (by kernel_rfl) ?_ _
                  go_wp2_with fail
                  all_goals
                    go_ret
                    obtain ⟨p3, c3, rfl, hS3⟩ := Lk.Sl.own HOWN3.out
                    exact ⟨p3, c3, l.take i ++ [x] ++ l.drop i, by rw [(Lk.put_len x HN.out hi).1]; rfl, by rw [(Lk.put_len x HN.out hi).1, (Lk.put_len x HN.out hi).2]; exact hS3, HP.out, HB3.out⟩
          case rx12q =>
            go_simp
            refine hK.out _ _ ((Lk.Blk.new2 (Lk.belAl (Below.refl _ w) _) _ (g := w.heap.size + 1) (by simp)).drew.bel) (fun hHx21q => ?_)
            clear hK K
            refine wpAnyH_ready (rs := [4]) (by kernel_rfl) (by simp) ?_
            refine AllReadyH.cons (o := ?ox22q) ?hx22q (fun K hK => ?rx22q) AllReadyH.nil
            case hx22q => (simp; rfl)
            case rx22q =>
              refine Lk.step_append rfl _ _ 37 rfl w.heap.size 3 i0 (.int .i64 0) 1 8 Tryd.underlying37 HI0.out.1 HI0.out.2.1 HI0.out.2.2.1 HI0.out.2.2.2 rfl (by decide) (.slice (some ⟨w.heap.size, 0, none⟩) 0 0) 0 [] rfl ((((Lk.Blk.new2 (Below.refl _ w) _ (g := w.heap.size) rfl).alloc _).drew).own) _ i c (Lk.numsV (l.take i)) rfl HNIL.out.1 HLEN.out.1 (HLIE.out.1.below (((Lk.Blk.new2 (Below.refl _ w) _ (g := w.heap.size) rfl).alloc _).drew).bel) (ints_oneCell .i64 _) (by unfold maxLen; omega) (by omega) ((((Lk.Blk.new2 (Below.refl _ w) _ (g := w.heap.size) rfl).alloc _).drew).bel.size) ?_
              intro v1 W1 hown1 hgrow1
              rw [List.nil_append, Nat.zero_add] at hown1
              have HB1 := Lk.hid (Lk.belOwn (size := 1) (((Lk.Blk.new2 (Below.refl _ w) _ (g := w.heap.size) rfl).alloc _).drew).bel (((Lk.Blk.new2 (Below.refl _ w) _ (g := w.heap.size) rfl).alloc _).drew).own (Nat.le_refl _) hgrow1)
              have HOWN1 := Lk.hid hown1
              have HX1 := Lk.hid (((Lk.Blk.new2 (Lk.belAl (Below.refl _ w) _) _ (g := w.heap.size + 1) (by simp)).drew).grown hgrow1 (by simp [Value.ownBlock]) (fun k hk => by cases hk; exact Nat.le_refl _))
              clear hown1 hgrow1
              refine hK.out _ _ (HB1.out) (fun hHx23q => ?_)
              clear hK K
              refine wpAnyH_ready (rs := [7]) (by kernel_rfl) (by simp) ?_
              refine AllReadyH.cons (o := ?ox24q) ?hx24q (fun K hK => ?rx24q) AllReadyH.nil
              case hx24q => (simp; rfl)
              case rx24q =>
                refine Lk.step_append rfl _ _ 37 rfl w.heap.size 3 i0 (.int .i64 0) 1 8 Tryd.underlying37 HI0.out.1 HI0.out.2.1 HI0.out.2.2.1 HI0.out.2.2.2 rfl (by decide) v1 i (Lk.numsV (l.take i)) rfl (HOWN1.out) (some ⟨w.heap.size + 1, 0, none⟩) 1 1 [.int .i64 x] rfl (fun h => nomatch h) rfl (HX1.out.lies (cs := [.int .i64 x])) (ints_oneCell .i64 [x]) (by unfold maxLen; omega) (by omega) ((HB1.out).size) ?_
                intro v2 W2 hown2 hgrow2
                have HB2 := Lk.hid (Lk.belOwn (size := 1) (HB1.out) (HOWN1.out) (Nat.le_refl _) hgrow2)
                have HOWN2 := Lk.hid hown2
                clear hown2 hgrow2
                refine hK.out _ _ (HB2.out) (fun hHx25q => ?_)
                clear hK K
                refine wpAnyH_ready (rs := [11]) (by kernel_rfl) (by simp) ?_
                refine AllReadyH.cons (o := ?ox26q) ?hx26q (fun K hK => ?rx26q) AllReadyH.nil
                case hx26q => (simp; rfl)
                case rx26q =>
                  refine Lk.step_append rfl _ _ 37 rfl w.heap.size 3 i0 (.int .i64 0) 1 8 Tryd.underlying37 HI0.out.1 HI0.out.2.1 HI0.out.2.2.1 HI0.out.2.2.2 rfl (by decide) v2 (i + 1) (Lk.numsV (l.take i) ++ [.int .i64 x]) rfl (HOWN2.out) _ (n - i) (c - i) (Lk.numsV (l.drop i)) rfl HNIL.out.2 HLEN.out.2 (HLIE.out.2.below HB2.out) (ints_oneCell .i64 _) (by unfold maxLen; omega) (by omega) (HB2.out.size) ?_
                  intro v3 W3 hown3 hgrow3
                  have HB3 := Lk.hid (Lk.belOwn (size := 1) (HB2.out) (HOWN2.out) (Nat.le_refl _) hgrow3)
                  have HOWN3 := Lk.hid hown3
                  clear hown3 hgrow3
                  refine hK.out _ _ (HB3.out) (fun hHx27q => ?_)
                  clear hK K
                  refine wpAnyH_take (i := 12) (oi := ?ox28q12) (v := ?vx28q12) ?hix28q12 ?hsx28q12 ?hfx28q12 ?hrx28q12 ?hQx28q12 (Or.inl ⟨?hwx28q12, ?hyx28q12⟩) ?hSx28q12 ?restx28q12
                  case hix28q12 => (simp; rfl)
                  case hsx28q12 => kernel_rfl
                  case hfx28q12 => kernel_rfl
                  case hrx28q12 => kernel_rfl
                  case hQx28q12 => exact fun _ _ _ h => h
                  case hwx28q12 => rfl
                  case hyx28q12 => (intro wq hSq; (try dsimp only at hSq); go_simp; (try with_reducible rfl))
                  case hSx28q12 => assumption
                  simp only [Act.put, List.setIfInBounds_toArray, List.set_cons_zero, List.set_cons_succ]
                  refine wpAnyH_done (by kernel_rfl) ?_ _
                  go_wp2_with fail
                  all_goals
                    go_ret
                    obtain ⟨p3, c3, rfl, hS3⟩ := Lk.Sl.own HOWN3.out
                    exact ⟨p3, c3, l.take i ++ [x] ++ l.drop i, by rw [(Lk.put_len x HN.out hi).1]; rfl, by rw [(Lk.put_len x HN.out hi).1, (Lk.put_len x HN.out hi).2]; exact hS3, HP.out, HB3.out⟩
        case rx9q =>
          go_simp
          refine hK.out _ _ ((Lk.Blk.new2 (Below.refl _ w) _ (g := w.heap.size) rfl).drew.bel) (fun hHx29q => ?_)
          clear hK K
          refine wpAnyH_ready (rs := [0]) (by kernel_rfl) (by simp) ?_
          refine AllReadyH.cons (o := ?ox30q) ?hx30q (fun K hK => ?rx30q) AllReadyH.nil
          case hx30q => (simp; rfl)
          case rx30q =>
            go_simp
            refine hK.out _ _ ((Lk.Blk.new2 (Lk.belAl (Below.refl _ w) _) _ (g := w.heap.size + 1) (by simp)).drew.bel) (fun hHx31q => ?_)
            clear hK K
            refine wpAnyH_ready (rs := [4]) (by kernel_rfl) (by simp) ?_
            refine AllReadyH.cons (o := ?ox32q) ?hx32q (fun K hK => ?rx32q) AllReadyH.nil
            case hx32q => (simp; rfl)
            case rx32q =>
              refine Lk.step_append rfl _ _ 37 rfl w.heap.size 3 i0 (.int .i64 0) 1 8 Tryd.underlying37 HI0.out.1 HI0.out.2.1 HI0.out.2.2.1 HI0.out.2.2.2 rfl (by decide) (.slice (some ⟨w.heap.size + 1, 0, none⟩) 0 0) 0 [] rfl (((Lk.Blk.new2 (Lk.belAl (Below.refl _ w) _) _ (g := w.heap.size + 1) (by simp)).drew).own) _ i c (Lk.numsV (l.take i)) rfl HNIL.out.1 HLEN.out.1 (HLIE.out.1.below ((Lk.Blk.new2 (Lk.belAl (Below.refl _ w) _) _ (g := w.heap.size + 1) (by simp)).drew).bel) (ints_oneCell .i64 _) (by unfold maxLen; omega) (by omega) (((Lk.Blk.new2 (Lk.belAl (Below.refl _ w) _) _ (g := w.heap.size + 1) (by simp)).drew).bel.size) ?_
              intro v1 W1 hown1 hgrow1
              rw [List.nil_append, Nat.zero_add] at hown1
              have HB1 := Lk.hid (Lk.belOwn (size := 1) ((Lk.Blk.new2 (Lk.belAl (Below.refl _ w) _) _ (g := w.heap.size + 1) (by simp)).drew).bel ((Lk.Blk.new2 (Lk.belAl (Below.refl _ w) _) _ (g := w.heap.size + 1) (by simp)).drew).own (Nat.le_refl _) hgrow1)
              have HOWN1 := Lk.hid hown1
              have HX1 := Lk.hid ((((Lk.Blk.new2 (Below.refl _ w) _ (g := w.heap.size) rfl).alloc _).drew).grown hgrow1 (by simp [Value.ownBlock]) (fun k hk => by cases hk; simp))
              clear hown1 hgrow1
              refine hK.out _ _ (HB1.out) (fun hHx33q => ?_)
              clear hK K
              refine wpAnyH_ready (rs := [7]) (by kernel_rfl) (by simp) ?_
              refine AllReadyH.cons (o := ?ox34q) ?hx34q (fun K hK => ?rx34q) AllReadyH.nil
              case hx34q => (simp; rfl)
              case rx34q =>
                refine Lk.step_append rfl _ _ 37 rfl w.heap.size 3 i0 (.int .i64 0) 1 8 Tryd.underlying37 HI0.out.1 HI0.out.2.1 HI0.out.2.2.1 HI0.out.2.2.2 rfl (by decide) v1 i (Lk.numsV (l.take i)) rfl (HOWN1.out) (some ⟨w.heap.size, 0, none⟩) 1 1 [.int .i64 x] rfl (fun h => nomatch h) rfl (HX1.out.lies (cs := [.int .i64 x])) (ints_oneCell .i64 [x]) (by unfold maxLen; omega) (by omega) ((HB1.out).size) ?_
                intro v2 W2 hown2 hgrow2
                have HB2 := Lk.hid (Lk.belOwn (size := 1) (HB1.out) (HOWN1.out) (Nat.le_refl _) hgrow2)
                have HOWN2 := Lk.hid hown2
                clear hown2 hgrow2
                refine hK.out _ _ (HB2.out) (fun hHx35q => ?_)
                clear hK K
                refine wpAnyH_ready (rs := [11]) (by kernel_rfl) (by simp) ?_
                refine AllReadyH.cons (o := ?ox36q) ?hx36q (fun K hK => ?rx36q) AllReadyH.nil
                case hx36q => (simp; rfl)
                case rx36q =>
                  refine Lk.step_append rfl _ _ 37 rfl w.heap.size 3 i0 (.int .i64 0) 1 8 Tryd.underlying37 HI0.out.1 HI0.out.2.1 HI0.out.2.2.1 HI0.out.2.2.2 rfl (by decide) v2 (i + 1) (Lk.numsV (l.take i) ++ [.int .i64 x]) rfl (HOWN2.out) _ (n - i) (c - i) (Lk.numsV (l.drop i)) rfl HNIL.out.2 HLEN.out.2 (HLIE.out.2.below HB2.out) (ints_oneCell .i64 _) (by unfold maxLen; omega) (by omega) (HB2.out.size) ?_
                  intro v3 W3 hown3 hgrow3
                  have HB3 := Lk.hid (Lk.belOwn (size := 1) (HB2.out) (HOWN2.out) (Nat.le_refl _) hgrow3)
                  have HOWN3 := Lk.hid hown3
                  clear hown3 hgrow3
                  refine hK.out _ _ (HB3.out) (fun hHx37q => ?_)
                  clear hK K
                  refine wpAnyH_take (i := 12) (oi := ?ox38q12) (v := ?vx38q12) ?hix38q12 ?hsx38q12 ?hfx38q12 ?hrx38q12 ?hQx38q12 (Or.inl ⟨?hwx38q12, ?hyx38q12⟩) ?hSx38q12 ?restx38q12
                  case hix38q12 => (simp; rfl)
                  case hsx38q12 => kernel_rfl
                  case hfx38q12 => kernel_rfl
                  case hrx38q12 => kernel_rfl
                  case hQx38q12 => exact fun _ _ _ h => h
                  case hwx38q12 => rfl
                  case hyx38q12 => (intro wq hSq; (try dsimp only at hSq); go_simp; (try with_reducible rfl))
                  case hSx38q12 => assumption
                  simp only [Act.put, List.setIfInBounds_toArray, List.set_cons_zero, List.set_cons_succ]
                  refine wpAnyH_done (by kernel_rfl) ?_ _
                  go_wp2_with fail
                  all_goals
                    go_ret
                    obtain ⟨p3, c3, rfl, hS3⟩ := Lk.Sl.own HOWN3.out
                    exact ⟨p3, c3, l.take i ++ [x] ++ l.drop i, by rw [(Lk.put_len x HN.out hi).1]; rfl, by rw [(Lk.put_len x HN.out hi).1, (Lk.put_len x HN.out hi).2]; exact hS3, HP.out, HB3.out⟩


end Go.Proofs.YthaenobciefjiaaDoor

/- The reference's bars walked. -/
namespace Go.Proofs.YthaenobciefjiaaDoor
open Go.RowKit

namespace Lk
/-- A box of one of them. -/
def Box3 (W : World) (b : Nat) (y : Hd) : Prop := W.heap[b]? = some (.cells #[str y.nm, .int .i64 y.ho, .int .i64 y.md] 71 (0, 0))
theorem Box3.c0 {W : World} {b : Nat} {y : Hd} (h : Box3 W b y) : W.cell? ⟨b, 0, none⟩ = some (str y.nm) := by unfold World.cell?; simp only [show W.heap[b]? = _ from h]; rfl
theorem Box3.c1 {W : World} {b : Nat} {y : Hd} (h : Box3 W b y) : W.cell? ⟨b, 1, none⟩ = some (.int .i64 y.ho) := by unfold World.cell?; simp only [show W.heap[b]? = _ from h]; rfl
theorem Box3.c2 {W : World} {b : Nat} {y : Hd} (h : Box3 W b y) : W.cell? ⟨b, 2, none⟩ = some (.int .i64 y.md) := by unfold World.cell?; simp only [show W.heap[b]? = _ from h]; rfl
theorem Box3.below {W W' : World} {b : Nat} {y : Hd} (h : Box3 W b y) (hb : Below W.heap.size W W') : Box3 W' b y := (hb.block b (heapLt h)).trans h
theorem Box3.new (W : World) (y : Hd) : Box3 (W.alloc (.cells #[str y.nm, .int .i64 y.ho, .int .i64 y.md] 71)) W.heap.size y := newAt W _ rfl
theorem Box3.al {W : World} {b : Nat} {y : Hd} (h : Box3 W b y) (o : Obj) : Box3 (W.alloc o) b y := h.below ((Below.refl _ _).alloc (Nat.le_refl _) o)
/-- Under way: whom the first i of a list name that bar x, ahead of them those of l0. -/
structure Br (W wr : World) (P : Int → Prop) (L : List Hd) (x : Hd) (i m : Nat) (p : Option Addr) (c : Nat) (l : List Int) : Prop where
  sl : Sl wr p l.length c (numsV l)
  up : Rs.Up (· ≤ ·) l
  mem : ∀ o, o ∈ l ↔ (P o ∨ ∃ y ∈ L.take i, hitB x y = true ∧ y.ho = o)
  len : l.length ≤ m + i
  bel : Below W.heap.size W wr
  bx : Box3 wr W.heap.size x
theorem take_mem {α : Type} {L : List α} {i : Nat} {y z : α} (h : L[i]? = some y) : z ∈ L.take (i + 1) ↔ (z ∈ L.take i ∨ z = y) := by
  rw [List.take_add_one, h]; simp
theorem Br.skip {W wr w2 : World} {P : Int → Prop} {L : List Hd} {x y : Hd} {i m : Nat} {p : Option Addr} {c : Nat} {l : List Int} (h : Br W wr P L x i m p c l) (hy : L[i]? = some y) (hh : hitB x y = false) (hb : Below wr.heap.size wr w2) : Br W w2 P L x (i + 1) m p c l := by
  refine ⟨h.sl.below hb, h.up, fun o => (h.mem o).trans ?_, by have := h.len; omega, belTr h.bel hb, h.bx.below hb⟩
  constructor
  · rintro (e | ⟨z, hz, e⟩)
    · exact Or.inl e
    · exact Or.inr ⟨z, (take_mem hy).2 (Or.inl hz), e⟩
  · rintro (e | ⟨z, hz, e1, e2⟩)
    · exact Or.inl e
    · rcases (take_mem hy).1 hz with e3 | e3
      · exact Or.inr ⟨z, e3, e1, e2⟩
      · rw [e3, hh] at e1; cases e1
theorem Br.put {W wr w2 : World} {P : Int → Prop} {L : List Hd} {x y : Hd} {i m : Nat} {p p' : Option Addr} {c c' : Nat} {l l' : List Int} (h : Br W wr P L x i m p c l) (hy : L[i]? = some y) (hh : hitB x y = true) (hb : Below wr.heap.size wr w2) (hs : Sl w2 p' l'.length c' (numsV l')) (hp : PutR l y.ho l') : Br W w2 P L x (i + 1) m p' c' l' := by
  obtain ⟨u1, u2⟩ := hp.1 h.up
  refine ⟨hs, u1, fun o => ?_, by have := h.len; have := hp.2; omega, belTr h.bel hb, h.bx.below hb⟩
  rw [u2, h.mem]
  constructor
  · rintro ((e | ⟨z, hz, e⟩) | e)
    · exact Or.inl e
    · exact Or.inr ⟨z, (take_mem hy).2 (Or.inl hz), e⟩
    · exact Or.inr ⟨y, (take_mem hy).2 (Or.inr rfl), hh, e.symm⟩
  · rintro (e | ⟨z, hz, e1, e2⟩)
    · exact Or.inl (Or.inl e)
    · rcases (take_mem hy).1 hz with e3 | e3
      · exact Or.inl (Or.inr ⟨z, e3, e1, e2⟩)
      · rw [e3] at e2; exact Or.inr e2.symm
/-- .. of the second list. -/
theorem Br.turn {W wr : World} {L L2 : List Hd} {x : Hd} {i m : Nat} {p : Option Addr} {c : Nat} {l : List Int} (h : Br W wr (fun _ => False) L x i m p c l) (hi : L.length ≤ i) : Br W wr (fun o => ∃ y ∈ L, hitB x y = true ∧ y.ho = o) L2 x 0 (m + i) p c l := by
  refine ⟨h.sl, h.up, fun o => (h.mem o).trans ?_, by have := h.len; omega, h.bel, h.bx⟩
  rw [List.take_of_length_le hi]
  simp
end Lk

set_option maxRecDepth 100000 in
set_option maxHeartbeats 2000000 in
theorem refBarring_any (X : List Nat) (W : World) (T : Nat) (r : Lk.Rt) (x : Lk.Hd) (at' : Nat) (hR : Hid (Lk.Rm X W T r)) (hn : r.has.length ≤ 1000 ∧ r.qu.length ≤ 1000) (hat : at' ≤ r.qu.length) (hok : Hid (∀ y ∈ r.has, y.ok)) :
    Calls Tryd.prog 35 #[.pointer (some ⟨T, 0, none⟩), .agg #[Lk.str x.nm, .int .i64 x.ho, .int .i64 x.md], .int .i64 (at' : Int)] W fun e w' => ∃ p c l, e = .returned (.slice p l.length c) ∧ Lk.Sl w' p l.length c (Lk.numsV l) ∧ Rs.Up (· ≤ ·) l ∧ (∀ o, o ∈ l ↔ Lk.BarsR r.has (r.qu.take at') x o) ∧ l.length ≤ 2000 ∧ Below W.heap.size W w' := by
  obtain ⟨n, hnn⟩ : ∃ n, n = r.has.length := ⟨_, rfl⟩
  have HN := Lk.hid (And.intro hnn hn)
  have hn1 : n ≤ 1000 := by rw [hnn]; exact hn.1
  have HAT := Lk.hid hat
  have hat1 : at' ≤ 1000 := Nat.le_trans hat hn.2
  clear hnn hn hat
  go_enter Tryd.func35, Tryd.ntmps35
  go_wp2_with fail
  go_loopw [7, 8] (fun vl vi wr => ∃ (i : Nat) (p : Option Addr) (c : Nat) (l : List Int), i ≤ n ∧ vi = .int .i64 (i : Int) ∧ vl = .slice p l.length c ∧ Hid (Lk.Br W wr (fun _ => False) r.has x i 0 p c l)) (fun _ vi _ => n - (RowKit.intOf vi).toNat)
  case atStart => exact ⟨0, none, 0, [], by omega, rfl, rfl, ⟨Lk.Sl.none _, List.Pairwise.nil, fun o => by simp, by simp, Lk.belAl (Below.refl _ _) _, Lk.Box3.new _ _⟩⟩
  case round =>
    obtain ⟨i, p, c, l, hi, rfl, rfl, HB⟩ := hrel
    have HRW := Lk.hid (hR.out.below HB.out.bel)
    obtain ⟨pb, cb, hc, hin, hcap, hnil, ho⟩ := HRW.out.has
    rw [← HN.out.1] at hc
    have HIN := Lk.hid hin
    clear hin hcap hnil
    by_cases hlt : i < n
    · obtain ⟨y, hy⟩ : ∃ y, r.has[i]? = some y := ⟨_, List.getElem?_eq_getElem (by rw [← HN.out.1]; exact hlt)⟩
      obtain ⟨b, o, rfl, hlb, c0, c1, c2⟩ := HIN.out.at hy
      obtain rfl := ho b o rfl
      rw [Nat.zero_add] at c0 c1 c2
      have HY := Lk.hid hy
      clear hy hlb
      have g1 : (0 : Int) ≤ (i : Int) := by omega
      have g2 : (i : Int) < (n : Int) := by omega
      have hE := Lk.str_eq y.nm x.nm
      have HB1 : Hid (Below wr.heap.size wr (wr.alloc (.cells #[Lk.str y.nm, .int .i64 y.ho, .int .i64 y.md] 71))) := Lk.hid (Lk.belAl (Below.refl _ _) _)
      have x0 := (HB.out.bx.al (.cells #[Lk.str y.nm, .int .i64 y.ho, .int .i64 y.md] 71)).c0
      have x1 := (HB.out.bx.al (.cells #[Lk.str y.nm, .int .i64 y.ho, .int .i64 y.md] 71)).c1
      have x2 := (HB.out.bx.al (.cells #[Lk.str y.nm, .int .i64 y.ho, .int .i64 y.md] 71)).c2
      cases hs : (y.nm == x.nm)
      · rw [hs] at hE
        have HH : Hid (Lk.hitB x y = false) := Lk.hid (by unfold Lk.hitB; rw [hs]; rfl)

        go_wp2_with fail
        exact ⟨⟨i + 1, p, c, l, by omega, by go_num, rfl, HB.out.skip HY.out HH.out HB1.out⟩, by simp [RowKit.intOf]; omega⟩
      · rw [hs] at hE
        cases ht : (y.ho == x.ho)
        · have hne : (y.ho != x.ho) = true := by rw [bne, ht]; rfl
          cases hbb : Md.barsB y.md x.md
          · have HH : Hid (Lk.hitB x y = false) := Lk.hid (by unfold Lk.hitB; rw [hbb, Bool.and_false])
            have HBB := Lk.hid hbb
            clear hbb
            go_wp2_with (first | (go_at_call 47; refine (refBars_any _ _ _).mono ?_; rintro e w2 ⟨rfl, hb⟩; rw [HBB.out]; have HB2 := Lk.hid (Lk.belTr HB1.out hb); clear hb))
            exact ⟨⟨i + 1, p, c, l, by omega, by go_num, rfl, HB.out.skip HY.out HH.out HB2.out⟩, by simp [RowKit.intOf]; omega⟩
          · have HH : Hid (Lk.hitB x y = true) := Lk.hid (by unfold Lk.hitB; rw [hbb, hs, bne, ht]; rfl)
            have HBB := Lk.hid hbb
            have HLL : Hid (l.length ≤ 100000) := Lk.hid (by have := HB.out.len; omega)
            have HYB : Hid (Lk.Box3 (wr.alloc (.cells #[Lk.str y.nm, .int .i64 y.ho, .int .i64 y.md] 71)) wr.heap.size y) := Lk.hid (Lk.Box3.new _ _)
            clear hbb
            go_wp2_with (first | (go_at_call 47; refine (refBars_any _ _ _).mono ?_; rintro e w2 ⟨rfl, hb⟩; rw [HBB.out]; have HB2 := Lk.hid (Lk.belTr HB1.out hb); have y1 := (HYB.out.below hb).c1; have HSL := Lk.hid (HB.out.sl.below HB2.out); clear hb) | (go_at_call 48; refine (refPut_any _ _ _ _ _ HSL HLL.out).mono ?_; rintro e w3 ⟨p3, c3, l3, rfl, hs3, hp3, hb3⟩; have HB3 := Lk.hid (And.intro hs3 (And.intro hp3 (Lk.belTr HB2.out hb3))); clear hs3 hp3 hb3))
            exact ⟨⟨i + 1, p3, c3, l3, by omega, by go_num, rfl, HB.out.put HY.out HH.out HB3.out.2.2 HB3.out.1 HB3.out.2.1⟩, by simp [RowKit.intOf]; omega⟩
        · have hne : (y.ho != x.ho) = false := by rw [bne, ht]; rfl
          have HH : Hid (Lk.hitB x y = false) := Lk.hid (by unfold Lk.hitB; rw [bne, ht]; simp)

          go_wp2_with fail
          exact ⟨⟨i + 1, p, c, l, by omega, by go_num, rfl, HB.out.skip HY.out HH.out HB1.out⟩, by simp [RowKit.intOf]; omega⟩
    · have HBT := Lk.hid (HB.out.turn (L2 := r.qu) (i := i) (by rw [← HN.out.1]; omega))
      have HO := HB.out.bx
      have x0 := HO.c0
      have x1 := HO.c1
      have x2 := HO.c2
      have HHN : Hid (r.has.length ≤ 1000) := Lk.hid HN.out.2.1
      clear HO
      by_cases hz : Lk.setR r.has x.ho x.nm = 0
      · have HZ := Lk.hid hz
        clear hz
        go_wp2_with (first | (go_at_call 20; refine (refSet_any X _ T r x.ho x.nm HRW HHN.out hok).mono ?_; rintro e w' ⟨rfl, hq⟩; obtain rfl := hq.symm; rw [HZ.out]))
        clear HB HRW x0 x1 x2 hc HIN ho
        go_loopw [7, 10] (fun vl vi wr => ∃ (i : Nat) (p : Option Addr) (c : Nat) (l : List Int), i ≤ at' ∧ vi = .int .i64 (i : Int) ∧ vl = .slice p l.length c ∧ Hid (Lk.Br W wr (fun o => ∃ y ∈ r.has, Lk.hitB x y = true ∧ y.ho = o) r.qu x i 1000 p c l)) (fun _ vi _ => at' - (RowKit.intOf vi).toNat)
        case atStart => exact ⟨0, p, c, l, by omega, rfl, rfl, ⟨HBT.out.sl, HBT.out.up, HBT.out.mem, by have := HBT.out.len; omega, HBT.out.bel, HBT.out.bx⟩⟩
        case round =>
          clear HBT
          obtain ⟨i, p, c, l, hi, rfl, rfl, HB⟩ := hrel
          have HRW := Lk.hid (hR.out.below HB.out.bel)
          obtain ⟨pb, cb, hc, hin, hcap, hnil, ho⟩ := HRW.out.qu
          have HIN := Lk.hid hin
          have hq1 : at' ≤ r.qu.length := HAT.out
          obtain ⟨nq, hnq⟩ : ∃ nq, nq = r.qu.length := ⟨_, rfl⟩
          rw [← hnq] at hc hq1
          have HNQ := Lk.hid hnq
          clear hin hcap hnil hnq
          by_cases hlt : i < at'
          · obtain ⟨y, hy⟩ : ∃ y, r.qu[i]? = some y := ⟨_, List.getElem?_eq_getElem (by rw [← HNQ.out]; omega)⟩
            obtain ⟨b, o, rfl, hlb, c0, c1, c2⟩ := HIN.out.at hy
            obtain rfl := ho b o rfl
            rw [Nat.zero_add] at c0 c1 c2
            have HY := Lk.hid hy
            clear hy hlb
            have g1 : (0 : Int) ≤ (i : Int) := by omega
            have g2 : (i : Int) < (at' : Int) := by omega
            have g3 : (i : Int) < (nq : Int) := by omega
            have hE := Lk.str_eq y.nm x.nm
            have HB1 : Hid (Below wr.heap.size wr (wr.alloc (.cells #[Lk.str y.nm, .int .i64 y.ho, .int .i64 y.md] 71))) := Lk.hid (Lk.belAl (Below.refl _ _) _)
            have x0 := (HB.out.bx.al (.cells #[Lk.str y.nm, .int .i64 y.ho, .int .i64 y.md] 71)).c0
            have x1 := (HB.out.bx.al (.cells #[Lk.str y.nm, .int .i64 y.ho, .int .i64 y.md] 71)).c1
            have x2 := (HB.out.bx.al (.cells #[Lk.str y.nm, .int .i64 y.ho, .int .i64 y.md] 71)).c2
            cases hs : (y.nm == x.nm)
            · rw [hs] at hE
              have HH : Hid (Lk.hitB x y = false) := Lk.hid (by unfold Lk.hitB; rw [hs]; rfl)

              go_wp2_with fail
              exact ⟨⟨i + 1, p, c, l, by omega, by go_num, rfl, HB.out.skip HY.out HH.out HB1.out⟩, by simp [RowKit.intOf]; omega⟩
            · rw [hs] at hE
              cases ht : (y.ho == x.ho)
              · have hne : (y.ho != x.ho) = true := by rw [bne, ht]; rfl
                cases hbb : Md.barsB y.md x.md
                · have HH : Hid (Lk.hitB x y = false) := Lk.hid (by unfold Lk.hitB; rw [hbb, Bool.and_false])
                  have HBB := Lk.hid hbb
                  clear hbb
                  go_wp2_with (first | (go_at_call 47; refine (refBars_any _ _ _).mono ?_; rintro e w2 ⟨rfl, hb⟩; rw [HBB.out]; have HB2 := Lk.hid (Lk.belTr HB1.out hb); clear hb))
                  exact ⟨⟨i + 1, p, c, l, by omega, by go_num, rfl, HB.out.skip HY.out HH.out HB2.out⟩, by simp [RowKit.intOf]; omega⟩
                · have HH : Hid (Lk.hitB x y = true) := Lk.hid (by unfold Lk.hitB; rw [hbb, hs, bne, ht]; rfl)
                  have HBB := Lk.hid hbb
                  have HLL : Hid (l.length ≤ 100000) := Lk.hid (by have := HB.out.len; omega)
                  have HYB : Hid (Lk.Box3 (wr.alloc (.cells #[Lk.str y.nm, .int .i64 y.ho, .int .i64 y.md] 71)) wr.heap.size y) := Lk.hid (Lk.Box3.new _ _)
                  clear hbb
                  go_wp2_with (first | (go_at_call 47; refine (refBars_any _ _ _).mono ?_; rintro e w2 ⟨rfl, hb⟩; rw [HBB.out]; have HB2 := Lk.hid (Lk.belTr HB1.out hb); have y1 := (HYB.out.below hb).c1; have HSL := Lk.hid (HB.out.sl.below HB2.out); clear hb) | (go_at_call 48; refine (refPut_any _ _ _ _ _ HSL HLL.out).mono ?_; rintro e w3 ⟨p3, c3, l3, rfl, hs3, hp3, hb3⟩; have HB3 := Lk.hid (And.intro hs3 (And.intro hp3 (Lk.belTr HB2.out hb3))); clear hs3 hp3 hb3))
                  exact ⟨⟨i + 1, p3, c3, l3, by omega, by go_num, rfl, HB.out.put HY.out HH.out HB3.out.2.2 HB3.out.1 HB3.out.2.1⟩, by simp [RowKit.intOf]; omega⟩
              · have hne : (y.ho != x.ho) = false := by rw [bne, ht]; rfl
                have HH : Hid (Lk.hitB x y = false) := Lk.hid (by unfold Lk.hitB; rw [bne, ht]; simp)

                go_wp2_with fail
                exact ⟨⟨i + 1, p, c, l, by omega, by go_num, rfl, HB.out.skip HY.out HH.out HB1.out⟩, by simp [RowKit.intOf]; omega⟩
          · have e : i = at' := by omega
            subst e
            go_wp2_with fail
            go_ret
            refine ⟨p, c, l, rfl, HB.out.sl, HB.out.up, fun o => ?_, by have := HB.out.len; omega, HB.out.bel⟩
            rw [HB.out.mem o]
            unfold Lk.BarsR
            rw [HZ.out]
            simp
      · have HZ := Lk.hid hz
        have hz2 : ((Lk.setR r.has x.ho x.nm : Int) == 0) = false := by simpa using hz
        clear hz
        go_wp2_with (first | (go_at_call 20; refine (refSet_any X _ T r x.ho x.nm HRW HHN.out hok).mono ?_; rintro e w' ⟨rfl, hq⟩; obtain rfl := hq.symm))
        go_ret
        refine ⟨p, c, l, rfl, HB.out.sl, HB.out.up, fun o => ?_, by have := HB.out.len; omega, HB.out.bel⟩
        rw [HB.out.mem o, List.take_of_length_le (by rw [← HN.out.1]; omega)]
        unfold Lk.BarsR
        simp [HZ.out]

end Go.Proofs.YthaenobciefjiaaDoor
