/- Rows that lie somewhere; one more put where it belongs. -/
import Derived.Test.YthikdfcndppoaaaWb2
import Derived.Deep.RegionHeld3
namespace Go.Proofs.Ythikdfcndppoaaa
open Go.RowKit

namespace Lk
theorem hid {p : Prop} (h : p) : Hid p := h
theorem belAt {W w1 : World} (hb : Below W.heap.size W w1) {b : Nat} (o : Nat) (h : b < W.heap.size) : w1.cell? ⟨b, o, none⟩ = W.cell? ⟨b, o, none⟩ := hb.cell (p := ⟨b, o, none⟩) h
theorem newAt (w : World) (x : Obj) {n : Nat} (h : n = w.heap.size) : (w.alloc x).heap[n]? = some x := by subst h; show (w.heap.push x)[w.heap.size]? = _; simp
theorem belAl {w w1 : World} (h : Below w.heap.size w w1) (o : Obj) : Below w.heap.size w (w1.alloc o) := h.alloc h.size o
theorem belTr {w w1 w2 : World} (h : Below w.heap.size w w1) (h2 : Below w1.heap.size w1 w2) : Below w.heap.size w w2 := h.trans (h2.mono h.size)
theorem addPlain (b o k : Nat) : (⟨b, o, none⟩ : Addr).add k = ⟨b, o + k, none⟩ := Addr.add_lit b o k
theorem heapLt {w : World} {b : Nat} {x : Obj} (h : w.heap[b]? = some x) : b < w.heap.size := (Array.getElem?_eq_some_iff.1 h).1
def Lies (w : World) (p : Option Addr) (cs : List Value) : Prop := cs.length = 0 ∨ ∃ b o, p = some ⟨b, o, none⟩ ∧ b < w.heap.size ∧ ∀ (j : Nat) (u : Value), cs[j]? = some u → w.cell? ⟨b, o + j, none⟩ = some u
theorem Lies.below {w w1 : World} {p : Option Addr} {cs : List Value} (h : Lies w p cs) (hB : Below w.heap.size w w1) : Lies w1 p cs := by
  rcases h with h | ⟨b, o, h1, h2, h3⟩
  · exact Or.inl h
  · exact Or.inr ⟨b, o, h1, Nat.lt_of_lt_of_le h2 hB.size, fun j u hu => (belAt hB _ h2).trans (h3 j u hu)⟩
theorem Lies.take {w : World} {p : Option Addr} {cs : List Value} (h : Lies w p cs) (k : Nat) : Lies w p (cs.take k) := by
  rcases h with h | ⟨b, o, h1, h2, h3⟩
  · exact Or.inl (by rw [List.length_take]; omega)
  · refine Or.inr ⟨b, o, h1, h2, fun j u hu => h3 j u ?_⟩
    rw [List.getElem?_take] at hu
    split at hu
    · exact hu
    · cases hu
theorem Lies.drop {w : World} {b o : Nat} {cs : List Value} (h : Lies w (some ⟨b, o, none⟩) cs) (k : Nat) : Lies w (some ⟨b, o + k, none⟩) (cs.drop k) := by
  rcases h with h | ⟨b, o, h1, h2, h3⟩
  · exact Or.inl (by rw [List.length_drop]; omega)
  · injection h1 with h1
    injection h1 with e1 e2
    subst e1 e2
    refine Or.inr ⟨_, _, rfl, h2, fun j u hu => ?_⟩
    rw [List.getElem?_drop] at hu
    rw [Nat.add_assoc]
    exact h3 _ u hu
theorem liesOwn {w : World} {base n size : Nat} {e : TypeId} {v : Value} {cs : List Value} (h : w.ownsRow base e size v n cs) : ∃ p c, v = .slice p n c ∧ n ≤ c ∧ (p = none → n = 0 ∧ c = 0) ∧ Lies w p cs ∧ ∀ b o, p = some ⟨b, o, none⟩ → o = 0 ∧ base ≤ b ∧ b < w.heap.size := by
  obtain ⟨h0, ⟨e1, e2⟩ | ⟨g, cap, cur, e1, e2, e3, e4, e5, e6, e7⟩⟩ := h
  · subst e2
    exact ⟨none, 0, e1, Nat.le_refl _, fun _ => ⟨rfl, rfl⟩, Or.inl (by omega), (fun _ _ h => nomatch h)⟩
  · have hl : g < w.heap.size := heapLt e3
    refine ⟨_, cap, e1, e4, (fun h => nomatch h), Or.inr ⟨g, 0, rfl, hl, fun j u hu => ?_⟩, fun b o e => by cases e; exact ⟨rfl, e2, hl⟩⟩
    have hj : j < n * size := by rw [← h0]; exact (List.getElem?_eq_some_iff.1 hu).1
    rw [Nat.zero_add]
    rw [← e7, List.getElem?_take_of_lt hj] at hu
    simpa [World.cell?, e3] using hu
theorem ownAt {w : World} {base g size : Nat} {t : TypeId} (h : w.heap[g]? = some (.cells #[] t)) (hb : base ≤ g) : w.ownsRow base t size (.slice (some ⟨g, 0, none⟩) 0 0) 0 [] :=
  ⟨by simp, Or.inr ⟨g, 0, #[], rfl, hb, h, Nat.le_refl _, Nat.zero_le _, by simp, by simp⟩⟩
theorem belOwn {w0 w w2 : World} {base n size : Nat} {e : TypeId} {v : Value} {xs : List Value} (hb : Below w0.heap.size w0 w) (h : w.ownsRow base e size v n xs) (hbase : w0.heap.size ≤ base) (hg : w.grownBy w2 v.ownBlock) : Below w0.heap.size w0 w2 :=
  hb.grown hg hb.size (fun j hj => by
    rcases h.2 with ⟨e1, _⟩ | ⟨g, cap, cur, e1, e2, _⟩
    · rw [e1] at hj; cases hj
    · rw [e1] at hj; cases hj; exact Nat.le_trans hbase e2)
theorem liesOwn2 {w : World} {base n size : Nat} {e : TypeId} {v : Value} {cs : List Value} (h : w.ownsRow base e size v n cs) : ∃ p c, v = .slice p n c ∧ n ≤ c ∧ (p = none → n = 0 ∧ c = 0) ∧ Lies w p cs ∧ (∀ b o, p = some ⟨b, o, none⟩ → o = 0 ∧ base ≤ b ∧ b < w.heap.size) ∧ ∀ a, p = some a → ∃ b, a = ⟨b, 0, none⟩ := by
  obtain ⟨p, c, h1, h2, h3, h4, h5⟩ := liesOwn h
  refine ⟨p, c, h1, h2, h3, h4, h5, fun a ha => ?_⟩
  rcases h.2 with ⟨e1, e2⟩ | ⟨g, cap, cur, e1, _⟩
  · rw [h1] at e1; injection e1 with e1; rw [e1] at ha; cases ha
  · rw [h1] at e1; injection e1 with e1; rw [e1] at ha; injection ha with ha; exact ⟨g, ha.symm⟩
structure Sl (W : World) (p : Option Addr) (n c : Nat) (cs : List Value) : Prop where
  lies : Lies W p cs
  nil : p = none → n = 0 ∧ c = 0
  zero : ∀ a, p = some a → ∃ b, a = ⟨b, 0, none⟩
  cap : n ≤ c
abbrev numsV (l : List Int) : List Value := l.map (Value.int .i64)
theorem Sl.below {w w1 : World} {p : Option Addr} {n c : Nat} {cs : List Value} (h : Sl w p n c cs) (hB : Below w.heap.size w w1) : Sl w1 p n c cs := ⟨h.lies.below hB, h.nil, h.zero, h.cap⟩
theorem Sl.num {w : World} {p : Option Addr} {n c : Nat} {l : List Int} (h : Sl w p n c (numsV l)) {j : Nat} {a : Int} (ha : l[j]? = some a) : ∃ b, p = some ⟨b, 0, .none⟩ ∧ b < w.heap.size ∧ w.cell? ⟨b, j, .none⟩ = some (.int .i64 a) := by
  have hj : (numsV l)[j]? = some (.int .i64 a) := by rw [List.getElem?_map, ha]; rfl
  rcases h.lies with e | ⟨b, o, h1, h2, h3⟩
  · rw [List.length_eq_zero_iff.1 e] at hj; cases hj
  · obtain ⟨b', e'⟩ := h.zero _ h1
    injection e' with _ e'
    subst e'
    exact ⟨b, h1, h2, by have := h3 j _ hj; rwa [Nat.zero_add] at this⟩
theorem Sl.own {w : World} {base n size : Nat} {e : TypeId} {v : Value} {cs : List Value} (h : w.ownsRow base e size v n cs) : ∃ p c, v = .slice p n c ∧ Sl w p n c cs := by
  obtain ⟨p, c, h1, h2, h3, h4, h5, h6⟩ := liesOwn2 h
  exact ⟨p, c, h1, h4, h3, h6, h2⟩
def PutR (l : List Int) (n : Int) (l' : List Int) : Prop := (Rs.Up (· ≤ ·) l → Rs.Up (· ≤ ·) l' ∧ ∀ o, o ∈ l' ↔ (o ∈ l ∨ o = n)) ∧ l'.length ≤ l.length + 1
theorem put_same {l : List Int} {n : Int} {k : Nat} (h : l[k]? = some n) : PutR l n l := by
  refine ⟨fun hu => ⟨hu, fun o => ⟨Or.inl, fun ho => ?_⟩⟩, Nat.le_succ _⟩
  rcases ho with ho | ho
  · exact ho
  · rw [ho]; exact List.mem_of_getElem? h
theorem put_new {l : List Int} {n : Int} {k : Nat} (hk : k ≤ l.length) (h1 : ∀ (j : Nat) a, j < k → l[j]? = some a → a < n) (h2 : ∀ a, l[k]? = some a → n < a) : PutR l n (l.take k ++ [n] ++ l.drop k) := by
  refine ⟨fun hu => ⟨?_, fun o => ?_⟩, ?_⟩
  · have hu0 := hu
    rw [← List.take_append_drop k l] at hu
    obtain ⟨u1, u2, u3⟩ := List.pairwise_append.1 hu
    have t1 : ∀ a ∈ l.take k, a < n := fun a ha => by
      obtain ⟨j, hj⟩ := List.getElem?_of_mem ha
      rw [List.getElem?_take] at hj
      split at hj
      · exact h1 j a (by assumption) hj
      · cases hj
    have t2 : ∀ a ∈ l.drop k, n < a := fun a ha => by
      obtain ⟨j, hj⟩ := List.getElem?_of_mem ha
      rw [List.getElem?_drop] at hj
      obtain ⟨c, hc⟩ : ∃ c, l[k]? = some c := ⟨_, List.getElem?_eq_getElem (by have := (List.getElem?_eq_some_iff.1 hj).1; omega)⟩
      have := h2 c hc
      rcases Nat.eq_zero_or_pos j with e | e
      · subst e
        rw [Nat.add_zero, hc] at hj
        cases hj; exact this
      · have h3 := (List.pairwise_iff_getElem.1 hu0) k (k + j) (List.getElem?_eq_some_iff.1 hc).1 (List.getElem?_eq_some_iff.1 hj).1 (by omega)
        rw [(List.getElem?_eq_some_iff.1 hc).2, (List.getElem?_eq_some_iff.1 hj).2] at h3
        have := h3.1
        omega
    refine List.pairwise_append.2 ⟨List.pairwise_append.2 ⟨u1, List.pairwise_singleton _ _, fun a ha b hb => ?_⟩, u2, fun a ha b hb => ?_⟩
    · rw [List.mem_singleton.1 hb]
      have := t1 a ha
      exact ⟨by omega, by omega⟩
    · rcases List.mem_append.1 ha with ha | ha
      · exact u3 a ha b hb
      · rw [List.mem_singleton.1 ha]
        have := t2 b hb
        exact ⟨by omega, by omega⟩
  · rw [List.mem_append, List.mem_append, List.mem_singleton]
    have e : o ∈ l ↔ o ∈ l.take k ∨ o ∈ l.drop k := by rw [← List.mem_append, List.take_append_drop]
    rw [e]
    constructor
    · rintro ((h | h) | h)
      · exact Or.inl (Or.inl h)
      · exact Or.inr h
      · exact Or.inl (Or.inr h)
    · rintro ((h | h) | h)
      · exact Or.inl (Or.inl h)
      · exact Or.inr h
      · exact Or.inl (Or.inr h)
  · simp; omega
theorem Sl.drop {w : World} {p : Option Addr} {n c : Nat} {cs : List Value} (h : Sl w p n c cs) (k : Nat) : Lies w (p.map (fun a => a.add k)) (cs.drop k) := by
  cases p with
  | none =>
    rcases h.lies with e | ⟨b, o, h1, _⟩
    · exact Or.inl (by rw [List.length_drop]; omega)
    · cases h1
  | some a =>
    rcases h.lies with e | ⟨b, o, h1, h2, h3⟩
    · exact Or.inl (by rw [List.length_drop]; omega)
    · injection h1 with h1
      subst h1
      have := Lies.drop (w := w) (b := b) (o := o) (cs := cs) (Or.inr ⟨b, o, rfl, h2, h3⟩) k
      rw [Option.map_some, addPlain]
      exact this
theorem cut_some {w : World} {b n c i size : Nat} {cs : List Value} (h : Sl w (some ⟨b, 0, none⟩) n c cs) (hn : cs.length = n * size) (hi : i ≤ n) : Lies w (if c = i then some ⟨b, 0, none⟩ else some ⟨b, i * size, none⟩) (cs.drop (i * size)) := by
  by_cases e : c = i
  · rw [if_pos e]
    have := h.cap
    have e2 : i = n := by omega
    exact Or.inl (by rw [List.length_drop, hn, e2]; omega)
  · rw [if_neg e]
    have := h.drop (i * size)
    rwa [Option.map_some, addPlain, Nat.zero_add] at this
theorem put_facts {w : World} {b n c i : Nat} {l : List Int} (h : Sl w (some ⟨b, 0, none⟩) n c (numsV l)) (hn : n = l.length) (hi : i ≤ n) :
    Hid (((some ⟨b, 0, none⟩ : Option Addr) = none → i = 0 ∧ c = 0) ∧ ((if c = i then some (⟨b, 0, none⟩ : Addr) else some ⟨b, i, none⟩) = none → n - i = 0 ∧ c - i = 0)) ∧ Hid ((numsV (l.take i)).length = i * 1 ∧ (numsV (l.drop i)).length = (n - i) * 1) ∧ Hid (Lies w (some ⟨b, 0, none⟩) (numsV (l.take i)) ∧ Lies w (if c = i then some ⟨b, 0, none⟩ else some ⟨b, i, none⟩) (numsV (l.drop i))) := by
  refine ⟨⟨(fun e => nomatch e), fun e => ?_⟩, ⟨?_, ?_⟩, ?_, ?_⟩
  · split at e <;> cases e
  · simp; omega
  · simp; omega
  · have := h.lies.take i
    rwa [← List.map_take] at this
  · have := cut_some (size := 1) h (by simp; omega) hi
    rw [Nat.mul_one] at this
    rwa [← List.map_drop] at this
theorem put_facts0 {w : World} {n c i : Nat} {l : List Int} (h : Sl w none n c (numsV l)) (hn : n = l.length) (hi : i ≤ n) :
    Hid (((none : Option Addr) = none → i = 0 ∧ c = 0) ∧ ((none : Option Addr) = none → n - i = 0 ∧ c - i = 0)) ∧ Hid ((numsV (l.take i)).length = i * 1 ∧ (numsV (l.drop i)).length = (n - i) * 1) ∧ Hid (Lies w none (numsV (l.take i)) ∧ Lies w none (numsV (l.drop i))) := by
  have h0 := h.nil rfl
  refine ⟨⟨fun _ => by omega, fun _ => by omega⟩, ⟨?_, ?_⟩, ?_, ?_⟩
  · simp; omega
  · simp; omega
  · exact Or.inl (by simp; omega)
  · exact Or.inl (by simp; omega)
theorem put_len {l : List Int} {n i : Nat} (x : Int) (hn : n = l.length) (hi : i ≤ n) : (l.take i ++ [x] ++ l.drop i).length = i + 1 + (n - i) ∧ numsV (l.take i ++ [x] ++ l.drop i) = numsV (l.take i) ++ [.int .i64 x] ++ numsV (l.drop i) := by
  constructor
  · simp; omega
  · simp
theorem step_append {P : Program} {ops : Array Oper} {o : Oper} {a : Act} {w : World} {K : Act → World → Prop} {Q : Exit → Act → World → Prop} {E : Prop}
    (hgd : o.guard = none) (s x : Operand) (t : TypeId) (hop : o.op = Op.call { callee := Callee.builtin Builtin.append, args := #[s, x], argTypes := #[t, t] })
    (base : Nat) (e : TypeId) (i : TypeInfo) (z : Value) (size bytes : Nat) (ht : P.underlying t = some (.slice e)) (hi : P.info? e = some i) (hz : i.zero = some z)
    (hsize : i.size = size) (hby : i.bytes = bytes) (hzs : z.cells.size = size) (hsz : 0 < size)
    (v : Value) (n : Nat) (xs : List Value) (hs : a.eval s = v) (hown : w.ownsRow base e size v n xs)
    (p : Option Addr) (m c : Nat) (news : List Value) (hx : a.eval x = .slice p m c) (hnil : p = none → m = 0 ∧ c = 0) (hl : news.length = m * size) (hnews : Lies w p news) (h1 : ∀ u ∈ news, u.oneCell' = true)
    (h63 : n + m ≤ maxLen) (hbytes : (n + m) * bytes ≤ 140737488355328) (hbase : base ≤ w.heap.size)
    (hK : ∀ v' w', w'.ownsRow base e size v' (n + m) (xs ++ news) → w.grownBy w' v.ownBlock → K (a.put o.dst v') w') :
    if Region.wanted o (yielded ops a.tmps) = true then Oper.wp P o a w K Q else E := by
  have hw : Region.wanted o (yielded ops a.tmps) = true := by simp [Region.wanted, hgd]
  rw [if_pos hw]
  obtain ⟨v', w', hrun, r1, r2⟩ : ∃ v' w', (Builtin.append_ #[t, t] o.type #[v, .slice p m c]).run P w = .ok v' w' ∧ w'.ownsRow base e size v' (n + m) (xs ++ news) ∧ w.grownBy w' v.ownBlock := by
    cases p with
    | none =>
      obtain ⟨rfl, rfl⟩ := hnil rfl
      obtain rfl : news = [] := List.length_eq_zero_iff.1 (by omega)
      exact ⟨v, w, run_append_owned_none w base t o.type e i size ht hi v n xs hown, by simpa using hown, ⟨rfl, rfl, rfl, Nat.le_refl _, fun _ _ _ => rfl⟩⟩
    | some ad =>
      obtain ⟨v', w', r0, r1, r2, _⟩ := run_append_own w base t o.type e i z size bytes ht hi hz hsize hby hzs hsz v n xs hown ad m c news hl (fun j u hu => by
        rcases hnews with h0 | ⟨b, o', e1, _, e3⟩
        · rw [List.length_eq_zero_iff.1 h0] at hu; simp at hu
        · cases e1
          rw [addPlain]
          exact e3 j u hu) h1 h63 hbytes hbase
      exact ⟨v', w', r0, r1, r2⟩
  unfold Oper.wp
  simp [execOp, hop, resolve, invoke, builtin, hs, hx, hrun, Result.andThen]
  exact hK v' w' r1 r2
structure Blk (w W : World) (g : Nat) (o : Obj) : Prop where
  bel : Below w.heap.size w W
  lo : w.heap.size ≤ g
  at_ : W.heap[g]? = some o
theorem Blk.new {w W : World} (hb : Below w.heap.size w W) (o : Obj) : Blk w (W.alloc o) W.heap.size o := ⟨belAl hb o, hb.size, newAt W o rfl⟩
theorem Blk.new2 {w W : World} (hb : Below w.heap.size w W) (o : Obj) {g : Nat} (h : g = W.heap.size) : Blk w (W.alloc o) g o := by subst h; exact Blk.new hb o
theorem Blk.alloc {w W : World} {g : Nat} {o : Obj} (h : Blk w W g o) (o' : Obj) : Blk w (W.alloc o') g o := ⟨belAl h.bel o', h.lo, by rw [Below.heap_alloc W o' g (heapLt h.at_)]; exact h.at_⟩
theorem Blk.drew {w W : World} {g : Nat} {o : Obj} (h : Blk w W g o) : Blk w W.drew g o := ⟨h.bel.drew, h.lo, h.at_⟩
theorem Blk.grown {w W W' : World} {g : Nat} {o : Obj} {row : Option Nat} (h : Blk w W g o) (hg : W.grownBy W' row) (hne : row ≠ some g) (hr : ∀ k, row = some k → w.heap.size ≤ k) : Blk w W' g o :=
  ⟨h.bel.grown hg h.bel.size hr, h.lo, (hg.block g (heapLt h.at_) (fun e => hne e.symm)).trans h.at_⟩
theorem Blk.own {w W : World} {g size : Nat} {t : TypeId} (h : Blk w W g (.cells #[] t (0, 0))) : W.ownsRow w.heap.size t size (.slice (some ⟨g, 0, none⟩) 0 0) 0 [] := ownAt h.at_ h.lo
theorem Blk.lies {w W : World} {g : Nat} {cs : List Value} {t : TypeId} (h : Blk w W g (.cells cs.toArray t (0, 0))) : Lies W (some ⟨g, 0, none⟩) cs := by
  refine Or.inr ⟨g, 0, rfl, heapLt h.at_, fun j u hu => ?_⟩
  rw [Nat.zero_add]
  unfold World.cell?
  simp only [h.at_]
  simpa using hu
theorem mergeH {G T : Prop} (m : G → T) (p : G) : T := m p
theorem wpAnyH_eq {P : Program} {md : Region.Mode} {ops : Array Oper} {Q : Exit → Act → World → Prop} {S : World → Prop} {fuel : Nat} {l l' : Array Bool} {a : Act} {w : World} (e : l' = l) (h : wpAnyH P md ops Q S fuel l a w) : wpAnyH P md ops Q S fuel l' a w := by subst e; exact h
theorem up_iff {l : List Int} : Rs.Up (· ≤ ·) l ↔ Kn.Rising l := ⟨fun h => h.imp (fun h => by omega), fun h => h.imp (fun h => by omega)⟩
/-- The nodes so far. -/
structure Nn (l : Kn.El) (j : Nat) (N : List Int) : Prop where
  up : Kn.Rising N
  mem : ∀ x, x ∈ N ↔ x ∈ (Mm.flat l).take j
theorem Nn.start (l : Kn.El) : Nn l 0 [] := ⟨List.Pairwise.nil, fun x => by simp⟩
theorem Nn.put {l : Kn.El} {j : Nat} {N N' : List Int} {x : Int} (h : Nn l j N) (hx : (Mm.flat l)[j]? = some x) (hp : PutR N x N') : Nn l (j + 1) N' := by
  obtain ⟨h1, h2⟩ := hp.1 (up_iff.2 h.up)
  refine ⟨up_iff.1 h1, fun y => ?_⟩
  rw [h2 y, h.mem y, Mm.take_snoc' hx, List.mem_append, List.mem_singleton]
theorem Nn.len {l : Kn.El} {j : Nat} {N : List Int} (h : Nn l j N) : N.length ≤ 2 * l.length := by
  rw [← Mm.flat_len]
  exact Mm.nodup_sub N _ (Mm.rising_nodup h.up) (fun x hx => List.mem_of_mem_take ((h.mem x).1 hx))
theorem Nn.all {l : Kn.El} {N : List Int} {j : Nat} (h : Nn l j N) (hj : j = 2 * l.length) (x : Int) : x ∈ N ↔ Kn.Nd l x := by
  rw [h.mem x, List.take_of_length_le (by rw [Mm.flat_len, hj]; exact Nat.le_refl _), Mm.mem_flat]
theorem flat_at : ∀ (l : Kn.El) (j : Nat) (e : Int × Int), l[j]? = some e → (Mm.flat l)[2 * j]? = some e.1 ∧ (Mm.flat l)[2 * j + 1]? = some e.2
  | [], j, e, h => by simp at h
  | x :: l, 0, e, h => by simp at h; subst h; simp [Mm.flat]
  | x :: l, j + 1, e, h => by
    have ih := flat_at l j e (by simpa using h)
    rw [show 2 * (j + 1) = 2 * j + 2 from by omega, show 2 * j + 2 + 1 = (2 * j + 1) + 2 from by omega]
    simpa [Mm.flat] using ih
theorem ownSl {w : World} {base : Nat} {v : Value} {l : List Int} (h : Mm.Own w base 3 v (Mm.its l)) : ∃ p c, v = .slice p l.length c ∧ Sl w p l.length c (numsV l) := by
  have h' : w.ownsRow base 3 1 v l.length (numsV l) := by have := h; unfold Mm.Own at this; rw [Mm.its_len] at this; exact this
  exact Sl.own h'
theorem slOwn {w W : World} {base n i : Nat} {v : Value} {l : List Int} {x : Int} (h : W.ownsRow w.heap.size 3 1 v (i + 1 + (n - i)) (numsV (l.take i) ++ [.int .i64 x] ++ numsV (l.drop i))) (hn : n = l.length) (hi : i ≤ n) (hb : base ≤ w.heap.size) : Mm.Own W base 3 v (Mm.its (l.take i ++ [x] ++ l.drop i)) := by
  refine Mm.Own.base (b := w.heap.size) ?_ hb
  unfold Mm.Own
  obtain ⟨e1, e2⟩ := put_len x hn hi
  rw [Mm.its_len, e1]
  have e3 : Mm.its (l.take i ++ [x] ++ l.drop i) = numsV (l.take i ++ [x] ++ l.drop i) := rfl
  rw [e3, e2]
  exact h
end Lk
end Go.Proofs.Ythikdfcndppoaaa
