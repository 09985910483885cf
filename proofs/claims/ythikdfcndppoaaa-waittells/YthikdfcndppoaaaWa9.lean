/- place, newGraph walked. -/
import Derived.Test.YthikdfcndppoaaaWa8
import Derived.Test.YthikdfcndppoaaaA5
namespace Go.Proofs.Ythikdfcndppoaaa
open Go.RowKit Go.Sort

namespace Mm
/-- Where a number stands among rising ones. -/
def idx (ns : List Int) (x : Int) : Nat := ns.countP (· < x)
theorem belDrewN {B : Nat} {w w1 : World} (h : Below B w w1) (n : Nat) : Below B w (w1.drewN n) := ⟨h.os, h.tape, h.output, h.size, h.block⟩
/-- Edges that lie where a slice says. -/
def EIn (w : World) (q : Option Addr) (l : Kn.El) : Prop := ∀ (j : Nat) (e : Int × Int), l[j]? = some e → ∃ b o, q = some ⟨b, o, none⟩ ∧ b < w.heap.size ∧ w.cell? ⟨b, o + j * 2, none⟩ = some (.int .i64 e.1) ∧ w.cell? ⟨b, o + j * 2 + 1, none⟩ = some (.int .i64 e.2)
theorem EIn.below {w w' : World} {q : Option Addr} {l : Kn.El} (h : EIn w q l) (hb : Below w.heap.size w w') : EIn w' q l := fun j e he => by
  obtain ⟨b, o, h1, h2, h3, h4⟩ := h j e he
  exact ⟨b, o, h1, Nat.lt_of_lt_of_le h2 hb.size, (belAt hb _ h2).trans h3, (belAt hb _ h2).trans h4⟩
end Mm

set_option maxRecDepth 100000 in
set_option maxHeartbeats 1000000 in
theorem place_any (w : World) (g c n : Nat) (vE : Value) (ns : List Int) (x : Int) (hN : Hid (Mm.Own w 0 3 (.slice (some ⟨g, 0, none⟩) n c) (Mm.its ns))) (hup : Hid (Kn.Rising ns)) (hn : n = ns.length) (hn1 : n < 100000) :
    Calls Try.prog 27 #[.agg #[.slice (some ⟨g, 0, none⟩) n c, vE], .int .i64 x] w fun e w' => e = .returned (.int .i64 (Mm.idx ns x : Int)) ∧ Below w.heap.size w w' := by
  have HN := Mm.hid hn
  clear hn
  go_enter Try.func27, Try.ntmps27
  go_wp2_with fail
  have hbs := Any.slices_BinarySearch_int Try.lays2n25 g 0 n c ns x (w.alloc (.cells #[.slice (some ⟨g, 0, none⟩) n c, vE] 39)) (by rw [HN.out]; exact Nat.le_refl _) (by omega) (fun j hj => by
    have h1 := hN.out.below ((Below.refl _ _).alloc (Nat.le_refl _) (.cells #[.slice (some ⟨g, 0, none⟩) n c, vE] 39))
    rw [Nat.zero_add, (h1.cell (Mm.its_at (List.getElem?_eq_getElem hj))).1]
    simp [List.getD_eq_getElem?_getD, List.getElem?_eq_getElem hj]) (by
    rw [HN.out, List.take_length]
    exact hup.out.imp (fun h => Int.le_of_lt h))
  rw [HN.out, List.take_length] at hbs
  rw [← HN.out] at hbs
  have HBS := Mm.hid hbs
  clear hbs
  refine HBS.out.mono ?_
  rintro e w2 ⟨rfl, q, rfl⟩
  go_wp2
  go_ret
  exact ⟨rfl, Mm.belDrewN ((Below.refl _ _).alloc (Nat.le_refl _) _) q⟩

namespace Mm
/-- make([]int, 0, n). -/
theorem mk0 {ops : Array Oper} {rest : List Oper} {o : Oper} {a : Act} {Q : Exit → Act → World → Prop} (w0 : World) (hgd : o.guard = none) (l c : Operand) (ho : o.op = Op.makeSlice 28 l c) (C : Int) (n : Nat) (hl : a.eval l = .int .i64 0) (hc : a.eval c = .int .i64 C) (hC : C = (n : Int)) (hn : n < 1000000)
    (h : ∀ w', Own w' w0.heap.size 3 (.slice (some ⟨w0.heap.size, 0, none⟩) 0 n) [] → w0.grownBy w' none → w0.heap.size < w'.heap.size → wpList Try.prog ops Q rest (a.put o.dst (.slice (some ⟨w0.heap.size, 0, none⟩) 0 n)) w') : wpList Try.prog ops Q (o :: rest) a w0 := by
  obtain ⟨i, h1, h2, h3, h4⟩ := int1
  refine wpList_make_own w0 hgd l c 28 ho w0.heap.size 3 i (.int .i64 0) 1 Try.underlying28 h1 h2 h3 .i64 .i64 C n hl hc hC (by rw [h4]; omega) (by unfold maxLen; omega) (Nat.le_refl _) (fun w' hown hg => h w' hown hg ?_)
  rcases hown.2 with ⟨e, _⟩ | ⟨g, cap, cur, e, _, hg', _⟩
  · cases e
  · cases e; exact heapLt hg'
/-- append of two whole numbers that lie one behind the other. -/
theorem app2 {ops : Array Oper} {rest : List Oper} {o : Oper} {a : Act} {Q : Exit → Act → World → Prop} (w0 : World) (hgd : o.guard = none) (s x : Operand)
    (ho : o.op = .call { callee := .builtin .append, args := #[s, x], argTypes := #[28, 28] }) (base : Nat) (v : Value) (y1 y2 : Int) (xs : List Value) (hs : a.eval s = v) (hown : Own w0 base 3 v xs) (B : Nat) (hx : a.eval x = .slice (some ⟨B, 0, none⟩) 2 2) (c1 : w0.cell? ⟨B, 0, none⟩ = some (.int .i64 y1)) (c2 : w0.cell? ⟨B, 1, none⟩ = some (.int .i64 y2)) (hlen : xs.length < 1000000) (hbase : base ≤ w0.heap.size)
    (h : ∀ v' w', Own w' base 3 v' (xs ++ [.int .i64 y1, .int .i64 y2]) → w0.grownBy w' v.ownBlock → (v'.ownBlock = v.ownBlock ∨ ∀ g, v'.ownBlock = some g → w0.heap.size ≤ g) → wpList Try.prog ops Q rest (a.put o.dst v') w') : wpList Try.prog ops Q (o :: rest) a w0 := by
  obtain ⟨i, h1, h2, h3, h4⟩ := int1
  refine wpList_append_own_at _ hgd s x 28 ho base 3 i _ 1 8 Try.underlying28 h1 h2 h3 h4 rfl (by decide) v xs.length xs hs hown ⟨B, 0, none⟩ 2 2 [.int .i64 y1, .int .i64 y2] hx rfl (fun j u hj => ?_) (fun u hu => ?_) (by unfold maxLen; omega) (by omega) hbase (fun v' w' h1 h2 _ h4 => h v' w' ?_ h2 ?_)
  · match j, hj with
    | 0, hj => simp at hj; subst hj; rw [addPlain]; exact c1
    | 1, hj => simp at hj; subst hj; rw [addPlain]; exact c2
  · rcases List.mem_cons.1 hu with e | e
    · rw [e]; rfl
    · rw [List.mem_singleton.1 e]; rfl
  · unfold Own
    rw [List.length_append]
    exact h1
  · rcases h4 with h4 | h4
    · exact Or.inl h4
    · exact Or.inr (fun g hg => by rw [h4] at hg; injection hg with hg; omega)
/-- All ends of edges, as they stand. -/
def flat (l : Kn.El) : List Int := l.flatMap (fun e => [e.1, e.2])
theorem flat_snoc (l : Kn.El) (e : Int × Int) : flat (l ++ [e]) = flat l ++ [e.1, e.2] := by simp [flat]
theorem flat_len (l : Kn.El) : (flat l).length = 2 * l.length := by
  induction l with
  | nil => rfl
  | cons e l ih => simp only [flat, List.flatMap_cons, List.length_append, List.length_cons, List.length_nil] at ih ⊢; omega
theorem compact_len (l : List Int) : (Lib.compact l).length ≤ l.length := by
  unfold Lib.compact Lib.compactUpTo
  rw [List.length_map]; exact Nat.le_trans (List.length_filter_le _ _) (by simp)
/-- Behind slices.Compact. -/
theorem Own.compacted {w : World} {base g n c : Nat} {l : List Int} (h : Own w base 3 (.slice (some ⟨g, 0, none⟩) n c) (its l)) (q : Nat) :
    Own (putRow (Value.int .i64) (Sort.ahead w q) g 0 (Lib.compact l ++ List.replicate (l.length - (Lib.compact l).length) 0).toArray) base 3 (.slice (some ⟨g, 0, none⟩) (Lib.compact l).length c) (its (Lib.compact l)) ∧ w.grownBy (putRow (Value.int .i64) (Sort.ahead w q) g 0 (Lib.compact l ++ List.replicate (l.length - (Lib.compact l).length) 0).toArray) (some g) := by
  have hl := compact_len l
  have h1 := h.sorted (ts := Lib.compact l ++ List.replicate (l.length - (Lib.compact l).length) 0) (by rw [List.length_append, List.length_replicate]; omega) q #[]
  rw [grow_empty] at h1
  refine ⟨?_, h1.2⟩
  have h2 := h1.1.take (k := (Lib.compact l).length) (by rw [its_len, List.length_append]; omega)
  rw [its_app, List.take_left' (by rw [its_len])] at h2
  exact h2
/-- All nodes of edges, rising. -/
def nodesL (l : Kn.El) : List Int := Lib.compact ((flat l).mergeSort fun x y => decide (x ≤ y))
theorem mem_flat (l : Kn.El) (x : Int) : x ∈ flat l ↔ Kn.Nd l x := by
  unfold flat Kn.Nd
  rw [List.mem_flatMap]
  constructor
  · rintro ⟨e, he, h⟩
    simp only [List.mem_cons, List.not_mem_nil, or_false] at h
    rcases h with h | h
    · exact ⟨e, he, .inl h.symm⟩
    · exact ⟨e, he, .inr h.symm⟩
  · rintro ⟨e, he, h⟩
    refine ⟨e, he, ?_⟩
    rcases h with h | h
    · rw [h]; simp
    · rw [h]; simp
theorem nodesL_spec (l : Kn.El) : Kn.Rising (nodesL l) ∧ ∀ x, x ∈ nodesL l ↔ Kn.Nd l x := by
  obtain ⟨h1, h2⟩ := Rs.compact (le := fun a b : Int => a ≤ b) (fun a b c h1 h2 => Int.le_trans h1 h2) (fun a => Int.le_refl a) (fun a b h1 h2 => by omega) _ (Kn.mergeSort_le (flat l))
  refine ⟨h1.imp (fun {a b} h => ?_), fun x => ?_⟩
  · have h3 := h.1
    have h4 := h.2
    omega
  · unfold nodesL
    rw [h2 x, List.mem_mergeSort, mem_flat]
theorem nodesL_len (l : Kn.El) : (nodesL l).length ≤ 2 * l.length := by
  have := compact_len ((flat l).mergeSort fun x y => decide (x ≤ y))
  rw [List.length_mergeSort, flat_len] at this
  exact this
theorem idx_nil (x : Int) : idx [] x = 0 := rfl
theorem idx_cons (a : Int) (t : List Int) (x : Int) : idx (a :: t) x = idx t x + (if a < x then 1 else 0) := by
  unfold idx
  rw [List.countP_cons]
  by_cases h : a < x <;> simp [h]
theorem idx_all {t : List Int} {x : Int} (h : ∀ y ∈ t, ¬ y < x) : idx t x = 0 := by
  unfold idx
  rw [List.countP_eq_zero]
  intro y hy
  simpa using h y hy
theorem idx_at : ∀ {ns : List Int}, Kn.Rising ns → ∀ {v : Nat} (hv : v < ns.length), idx ns ns[v] = v
  | [], _, v, hv => absurd hv (Nat.not_lt_zero v)
  | a :: t, h, 0, _ => by
    obtain ⟨h1, _⟩ := List.pairwise_cons.1 h
    rw [List.getElem_cons_zero, idx_cons, idx_all (fun y hy => by have := h1 y hy; omega)]
    simp
  | a :: t, h, v + 1, hv => by
    obtain ⟨h1, h2⟩ := List.pairwise_cons.1 h
    have hv' : v < t.length := by simpa using hv
    rw [List.getElem_cons_succ, idx_cons, idx_at h2 hv', if_pos (h1 _ (List.getElem_mem hv'))]
theorem idx_of {ns : List Int} (h : Kn.Rising ns) {x : Int} (hx : x ∈ ns) : ∃ hv : idx ns x < ns.length, ns[idx ns x] = x := by
  obtain ⟨v, hv, rfl⟩ := List.mem_iff_getElem.1 hx
  have e := idx_at h hv
  exact ⟨by rw [e]; exact hv, by simp only [e]⟩
/-- By place the places to which edges lead. -/
def EL (ns : List Int) (l : Kn.El) : Nat → List Nat := fun v => (l.filter (fun e => idx ns e.1 == v)).map (fun e => idx ns e.2)
theorem EL_nil (ns : List Int) : EL ns [] = fun _ => [] := rfl
theorem EL_snoc (ns : List Int) (l : Kn.El) (e : Int × Int) : EL ns (l ++ [e]) = fun j => if j = idx ns e.1 then EL ns l (idx ns e.1) ++ [idx ns e.2] else EL ns l j := by
  funext j
  unfold EL
  rw [List.filter_append]
  by_cases h : j = idx ns e.1
  · subst h; simp
  · have : (idx ns e.1 == j) = false := by simp; omega
    simp [this, h]
theorem EL_len (ns : List Int) (l : Kn.El) (v : Nat) : (EL ns l v).length ≤ l.length := by
  unfold EL; rw [List.length_map]; exact List.length_filter_le _ _
theorem grf (l : Kn.El) : Kn.Grf l (nodesL l) (EL (nodesL l) l) := by
  obtain ⟨h1, h2⟩ := nodesL_spec l
  have hm : ∀ e ∈ l, e.1 ∈ nodesL l ∧ e.2 ∈ nodesL l := fun e he => ⟨(h2 _).2 ⟨e, he, .inl rfl⟩, (h2 _).2 ⟨e, he, .inr rfl⟩⟩
  have hEL : ∀ v w, w ∈ EL (nodesL l) l v ↔ ∃ e ∈ l, idx (nodesL l) e.1 = v ∧ idx (nodesL l) e.2 = w := fun v w => by
    unfold EL
    rw [List.mem_map]
    constructor
    · rintro ⟨e, he, rfl⟩
      obtain ⟨h3, h4⟩ := List.mem_filter.1 he
      exact ⟨e, h3, by simpa using h4, rfl⟩
    · rintro ⟨e, he, h3, h4⟩
      exact ⟨e, List.mem_filter.2 ⟨he, by simpa using h3⟩, h4⟩
  refine ⟨h1, h2, fun v w hw => ?_, fun v w hv hw => ?_⟩
  · obtain ⟨e, he, rfl, rfl⟩ := (hEL v w).1 hw
    exact ⟨(idx_of h1 (hm e he).1).1, (idx_of h1 (hm e he).2).1⟩
  · rw [hEL]
    constructor
    · rintro ⟨e, he, rfl, rfl⟩
      show (_, _) ∈ l
      rw [(idx_of h1 (hm e he).1).2, (idx_of h1 (hm e he).2).2]
      exact he
    · intro h
      exact ⟨_, h, idx_at h1 hv, idx_at h1 hw⟩

/-- What a block of edges that are laid out is for. -/
inductive Lc
  | c | e | n
  | r (i : Nat)
structure Gb (h : Nat) (w : World) (tag : Nat → Option Lc) (B gE : Nat) (vN : Value) (ns : List Int) (n : Nat) (sv : List Value) (E : Nat → List Nat) : Prop where
  cell : w.heap[B]? = some (.cells #[vN, .slice (some ⟨gE, 0, none⟩) n n] 39 (0, 0))
  tc : tag B = some .c
  top : ∀ b, w.heap.size ≤ b → tag b = none
  bot : ∀ b, b < h → tag b = none
  N : Own w h 3 vN (its ns)
  tn : ∀ g, vN.ownBlock = some g → tag g = some .n
  Es : Own w h 28 (.slice (some ⟨gE, 0, none⟩) n n) sv
  te : tag gE = some .e
  sl : sv.length = n
  rows : ∀ (i : Nat) (v : Value), sv[i]? = some v → Own w h 3 v (nts (E i)) ∧ ∀ g, v.ownBlock = some g → tag g = some (.r i)
theorem Gb.keep {h : Nat} {w : World} {tag : Nat → Option Lc} {B gE : Nat} {vN : Value} {ns : List Int} {n : Nat} {sv : List Value} {E : Nat → List Nat} (H : Gb h w tag B gE vN ns n sv E) {w' : World} (hb : Below w.heap.size w w') : Gb h w' tag B gE vN ns n sv E :=
  ⟨(hb.block B (heapLt H.cell)).trans H.cell, H.tc, fun b hle => H.top b (Nat.le_trans hb.size hle), H.bot, H.N.below hb, H.tn, H.Es.below hb, H.te, H.sl, fun i v hv => ⟨(H.rows i v hv).1.below hb, (H.rows i v hv).2⟩⟩
theorem apartC {tag : Nat → Option Lc} {a b : Nat} {l l' : Lc} (h : tag a = some l) (h' : tag b = some l') (hne : l ≠ l') : a ≠ b := fun e => hne (by rw [e, h'] at h; injection h.symm)
/-- A row anew. -/
theorem Gb.put {h : Nat} {w : World} {tag : Nat → Option Lc} {B gE : Nat} {vN : Value} {ns : List Int} {n : Nat} {sv : List Value} {E : Nat → List Nat} (H : Gb h w tag B gE vN ns n sv E) {w1 : World} {i t : Nat} {u v : Value} (hu : sv[i]? = some u) (hg : w.grownBy w1 u.ownBlock) (hv : Own w1 h 3 v (nts (E i ++ [t]))) (ho : v.ownBlock = u.ownBlock ∨ ∀ g, v.ownBlock = some g → w.heap.size ≤ g) :
    Gb h (w1.setCell ⟨gE, i, none⟩ v) (fun b => if v.ownBlock = some b then some (.r i) else tag b) B gE vN ns n (sv.set i v) (fun j => if j = i then E i ++ [t] else E j) := by
  have lts : ∀ b l, tag b = some l → b < w.heap.size := fun b l e => by
    rcases Nat.lt_or_ge b w.heap.size with c | c
    · exact c
    · rw [H.top b c] at e; cases e
  have hold : ∀ b l, tag b = some l → l ≠ .r i → w1.heap[b]? = w.heap[b]? := fun b l e hl => hg.block b (lts b l e) (fun e2 => hl (by have := (H.rows i u hu).2 b e2.symm; rw [this] at e; injection e.symm))
  have k : ∀ b l, tag b = some l → l ≠ .r i → l ≠ .e → (w1.setCell ⟨gE, i, none⟩ v).heap[b]? = w.heap[b]? := fun b l e h1 h2 => (heap_setCell_other w1 _ b _ (apartC e H.te h2)).trans (hold b l e h1)
  have tk0 : ∀ b l, tag b = some l → l ≠ .r i → v.ownBlock ≠ some b := fun b l e hl e2 => by
    rcases ho with ho | ho
    · have := (H.rows i u hu).2 b (by rw [← ho, e2]); rw [this] at e; exact hl (by injection e.symm)
    · have := ho b e2; have := lts b l e; omega
  have tk : ∀ b l, tag b = some l → l ≠ .r i → (if v.ownBlock = some b then some (.r i) else tag b) = some l := fun b l e hl => by rw [if_neg (tk0 b l e hl)]; exact e
  refine ⟨(k B _ H.tc (by simp) (by simp)).trans H.cell, tk B _ H.tc (by simp), fun b hb => ?_, fun b hb => ?_, H.N.keep (fun g hgv => k g _ (H.tn g hgv) (by simp) (by simp)), fun g hgv => tk g _ (H.tn g hgv) (by simp), ?_, tk gE _ H.te (by simp), by simp [H.sl], fun j u' hj => ?_⟩
  · have hb' : w1.heap.size ≤ b := by simpa using hb
    show (if v.ownBlock = some b then _ else tag b) = none
    rw [if_neg (fun e => by have := (hv.lt e).1; omega)]
    exact H.top b (Nat.le_trans hg.size hb')
  · show (if v.ownBlock = some b then _ else tag b) = none
    rw [if_neg (fun e => by have := (hv.lt e).2; omega)]
    exact H.bot b hb
  · have h1 : Own w1 h 28 (.slice (some ⟨gE, 0, none⟩) n n) sv := H.Es.keep (fun g hgv => by injection hgv with hgv; subst hgv; exact hold _ _ H.te (by simp))
    exact h1.set i v
  · rw [List.getElem?_set] at hj
    by_cases e : i = j
    · subst e
      rw [if_pos rfl] at hj
      have hi : i < sv.length := (List.getElem?_eq_some_iff.1 hu).1
      rw [if_pos hi] at hj
      injection hj with hj
      subst hj
      rw [if_pos rfl]
      refine ⟨hv.keep (fun g hgv => heap_setCell_other w1 _ g _ (fun e => ?_)), fun g hgv => if_pos hgv⟩
      have e' : g = gE := e
      subst e'
      exact tk0 g _ H.te (by simp) hgv
    · rw [if_neg e] at hj
      obtain ⟨r1, r2⟩ := H.rows j u' hj
      rw [if_neg (fun h => e h.symm)]
      have hne : Lc.r j ≠ Lc.r i := fun h => e (by injection h.symm)
      exact ⟨r1.keep (fun g hgv => k g _ (r2 g hgv) hne (by simp)), fun g hgv => tk g _ (r2 g hgv) hne⟩

theorem Gb.hold {h : Nat} {w : World} {tag : Nat → Option Lc} {B gE : Nat} {vN : Value} {ns : List Int} {n : Nat} {sv : List Value} {E : Nat → List Nat} (H : Gb h w tag B gE vN ns n sv E) {w1 : World} {i : Nat} {u : Value} (hu : sv[i]? = some u) (hg : w.grownBy w1 u.ownBlock) {b : Nat} {l : Lc} (e : tag b = some l) (hl : l ≠ .r i) : w1.heap[b]? = w.heap[b]? := by
  refine hg.block b ?_ (fun e2 => hl (by have := (H.rows i u hu).2 b e2.symm; rw [this] at e; injection e.symm))
  rcases Nat.lt_or_ge b w.heap.size with c | c
  · exact c
  · rw [H.top b c] at e; cases e
theorem grAlD {w w' : World} {o : Obj} {r : Option Nat} (h : (w.alloc o).drew.grownBy w' r) : w.grownBy w' r :=
  ⟨h.os, h.tape, h.output, Nat.le_trans (show w.heap.size ≤ (w.alloc o).heap.size by simp) h.size, fun i hi hr => (h.block i (show i < (w.alloc o).heap.size by simp; omega) hr).trans (oldAt w o hi)⟩
theorem Gb.gr {h : Nat} {w : World} {tag : Nat → Option Lc} {B gE : Nat} {vN : Value} {ns : List Int} {n : Nat} {sv : List Value} {E : Nat → List Nat} (H : Gb h w tag B gE vN ns n sv E) (hn : n = ns.length) {w' : World} (hz : w.heap.size ≤ w'.heap.size) (hk : ∀ b, h ≤ b → w'.heap[b]? = w.heap[b]?) : Gr w'.heap.size w' vN (.slice (some ⟨gE, 0, none⟩) n n) ns E sv :=
  ⟨(H.N.keep (fun g hg => hk g (H.N.lt hg).2)).base (Nat.zero_le _), fun g hg => Nat.lt_of_lt_of_le (H.N.lt hg).1 hz, (H.Es.keep (fun g hg => hk g (H.Es.lt hg).2)).base (Nat.zero_le _), fun g hg => Nat.lt_of_lt_of_le (H.Es.lt hg).1 hz, by rw [H.sl, hn], fun i v hv => ⟨((H.rows i v hv).1.keep (fun g hg => hk g ((H.rows i v hv).1.lt hg).2)).base (Nat.zero_le _), fun g hg => Nat.lt_of_lt_of_le ((H.rows i v hv).1.lt hg).1 hz⟩⟩
def S13 (B bx : Nat) (vN vE : Value) (x y : Int) (W w' : World) : Prop :=
  w'.cell? ⟨B, 0, none⟩ = some vN ∧ w'.cell? ⟨B, 1, none⟩ = some vE ∧ w'.cell? ⟨bx, 0, none⟩ = some (.int .i64 x) ∧ w'.cell? ⟨bx, 1, none⟩ = some (.int .i64 y) ∧ Below W.heap.size W w'
theorem S13.keep {B bx : Nat} {vN vE : Value} {x y : Int} {W w0 w1 : World} (hB : B < W.heap.size ∧ bx < W.heap.size) (hb : Below w0.heap.size w0 w1) (h : S13 B bx vN vE x y W w0) : S13 B bx vN vE x y W w1 := by
  obtain ⟨h0, h1, h2, h3, h4⟩ := h
  have hz := h4.size
  exact ⟨(belAt hb 0 (by omega)).trans h0, (belAt hb 1 (by omega)).trans h1, (belAt hb 0 (by omega)).trans h2, (belAt hb 1 (by omega)).trans h3, belTr h4 (Nat.le_refl _) hb⟩
theorem S13.bel {B bx : Nat} {vN vE : Value} {x y : Int} {W w' : World} (h : S13 B bx vN vE x y W w') : Below W.heap.size W w' := h.2.2.2.2
theorem take_snoc' {α : Type} {l : List α} {k : Nat} {x : α} (h : l[k]? = some x) : l.take (k + 1) = l.take k ++ [x] := by rw [List.take_add_one, h]; rfl
end Mm

set_option maxRecDepth 100000 in
set_option maxHeartbeats 4000000 in
theorem newGraph_any (w : World) (q : Option Addr) (c : Nat) (l : Kn.El) (n : Nat) (hl : Hid (Mm.EIn w q l)) (hn : Hid (n = l.length)) (hn1 : n < 1000) :
    Calls Try.prog 17 #[.slice q n c] w fun e w' => ∃ (g cc gE : Nat) (sv : List Value), e = .returned (.agg #[.slice (some ⟨g, 0, none⟩) (Mm.nodesL l).length cc, .slice (some ⟨gE, 0, none⟩) (Mm.nodesL l).length (Mm.nodesL l).length]) ∧
      Mm.Gr w'.heap.size w' (.slice (some ⟨g, 0, none⟩) (Mm.nodesL l).length cc) (.slice (some ⟨gE, 0, none⟩) (Mm.nodesL l).length (Mm.nodesL l).length) (Mm.nodesL l) (Mm.EL (Mm.nodesL l) l) sv ∧ Below w.heap.size w w' := by
  go_enter Try.func17, Try.ntmps17
  go_wp2_with (at_make; refine Mm.mk0 _ rfl _ _ rfl _ (2 * n) rfl rfl (by omega) (by omega) ?_; intro w1 hown1 hg1 hs1)
  have HB1 : Hid (Below w.heap.size w w1) := Mm.hid (Mm.belTr ((Below.refl _ _).alloc (Nat.le_refl _) _) (Nat.le_refl _) (Mm.grBel (Nat.le_refl _) hg1 (fun g e => nomatch e)))
  have HB0 : Hid (w1.heap[w.heap.size]? = some (.cells #[.slice none 0 0, .slice none 0 0] 39 (0, 0))) := Mm.hid ((hg1.block w.heap.size (by simp) (fun e => nomatch e)).trans (Mm.newAt w _ rfl))
  simp only [World.size_alloc] at hown1 hs1
  have HO1 := Mm.hid hown1
  have HS1 := Mm.hid hs1
  clear hown1 hg1 hs1
  go_loopw [3, 17] (fun v3 v17 wr => ∃ (k g m cc : Nat), k ≤ n ∧ v17 = .int .i64 (k : Int) ∧ v3 = .slice (some ⟨g, 0, none⟩) m cc ∧ Hid (m = 2 * k) ∧ Hid (Mm.Own wr (w.heap.size + 1) 3 (.slice (some ⟨g, 0, none⟩) m cc) (Mm.its (Mm.flat (l.take k)))) ∧ Hid (Below w.heap.size w wr) ∧ Hid (wr.heap[w.heap.size]? = some (.cells #[.slice none 0 0, .slice none 0 0] 39 (0, 0))) ∧ Hid (w.heap.size + 1 < wr.heap.size)) (fun _ v17 _ => n - (RowKit.intOf v17).toNat)
  case atStart => exact ⟨0, w.heap.size + 1, 0, 2 * n, by omega, rfl, rfl, rfl, HO1, HB1, HB0, HS1⟩
  case round =>
    obtain ⟨k, g, m, cc, hk, rfl, rfl, HM, HO, HB, H0, HS⟩ := hrel
    clear HO1 HB1 HB0 HS1
    by_cases hlt : k < n
    · obtain ⟨e, he⟩ : ∃ e, l[k]? = some e := ⟨_, List.getElem?_eq_getElem (by rw [← hn.out]; exact hlt)⟩
      obtain ⟨b, o, rfl, hb, c1, c2⟩ := (hl.out.below HB.out) k e he
      obtain ⟨x, y⟩ := e
      have HE := Mm.hid he
      clear he
      simp only at c1 c2
      have HBa : Hid (Below w.heap.size w (wr.alloc (.cells #[.int .i64 x, .int .i64 y] 31))) := Mm.hid (Mm.belAl HB.out (Nat.le_refl _) _)
      have hHS := HS.out
      have hHM := HM.out
      go_wp2_with (at_builtin; refine Mm.app2 (wr.alloc (.cells #[.int .i64 x, .int .i64 y] 31)) rfl _ _ rfl (w.heap.size + 1) (.slice (some ⟨g, 0, none⟩) m cc) x y (Mm.its (Mm.flat (l.take k))) rfl (HO.out.below ((Below.refl _ _).alloc (Nat.le_refl _) _)) wr.heap.size rfl (Mm.cellOf (Mm.newAt wr _ rfl) rfl) (Mm.cellOf (Mm.newAt wr _ rfl) rfl) (by rw [Mm.its_len, Mm.flat_len, List.length_take]; omega) (by simp; omega) ?_; intro v3 w3 hown3 hg3 hloc3; obtain ⟨g3, n3, cc3, rfl, hn3, _⟩ := hown3.nonnil (by simp); have HX3 := Mm.hid (And.intro hown3 (And.intro hg3 (And.intro hloc3 hn3))); clear hown3 hg3 hloc3 hn3)
      obtain ⟨ho3, hg3, hloc3, hn3⟩ := HX3.out
      have hb3 : ∀ i, (Value.slice (some ⟨g, 0, none⟩) m cc).ownBlock = some i → w.heap.size + 1 ≤ i := fun i hi => (HO.out.lt hi).2
      have hsz := hg3.size
      simp only [World.size_alloc] at hsz
      refine ⟨⟨k + 1, g3, n3, cc3, by omega, by go_num, rfl, Mm.hid (by rw [hn3, List.length_append, Mm.its_len, Mm.flat_len, List.length_take, ← hn.out]; simp; omega), Mm.hid ?_, Mm.hid (HBa.out.grown hg3 (by simp; omega) (fun i hi => Nat.le_of_succ_le (hb3 i hi))), Mm.hid ((hg3.block w.heap.size (by simp; omega) (fun e => by have := hb3 _ e.symm; omega)).trans ((Mm.oldAt wr _ (by omega)).trans H0.out)), Mm.hid (by omega)⟩, by simp [RowKit.intOf]; omega⟩
      rw [Mm.take_snoc' HE.out, Mm.flat_snoc, Mm.its_app]
      exact ho3
    · obtain rfl : k = n := by omega
      have hO := HO.out
      rw [List.take_of_length_le (by rw [hn.out]; exact Nat.le_refl _)] at hO
      obtain ⟨q1, q2, q3, q4, q5, q6⟩ := hO.holds
      have hfl := Mm.flat_len l
      have hno := hn.out
      have cS := Any.slices_Sort_int Try.lays189 g 0 cc (Mm.flat l) wr q1 q2 (by omega)
      rw [← q4] at cS
      have HCS := Mm.hid cS
      have HSO := fun (nq : Nat) (os : Array Obj) => hO.sorted (ts := (Mm.flat l).mergeSort fun x y => decide (x ≤ y)) (List.length_mergeSort _) nq os
      have HSS := Mm.hid HSO
      have HQ := Mm.hid (And.intro q3 q4)
      clear q1 q2 q3 q4 q5 q6 cS HSO hO hfl hno HO
      go_wp2_with (go_at_call 25; refine HCS.out.mono ?_; rintro e w2 ⟨rfl, nq, os, hw0⟩; have HW0 := Mm.hid hw0; clear hw0)
      have hS := HSS.out nq os
      rw [← HW0.out] at hS
      obtain ⟨ms, hms⟩ : ∃ ms, ms = (Mm.flat l).mergeSort fun x y => decide (x ≤ y) := ⟨_, rfl⟩
      have hml : m = ms.length := by rw [hms, List.length_mergeSort]; exact HQ.out.2
      rw [← hms] at hS
      have HNL : Hid (Mm.nodesL l = Lib.compact ms) := Mm.hid (by rw [hms]; rfl)
      obtain ⟨p1, p2, p3, p4, p5, p6⟩ := hS.1.holds
      have cC := Any.slices_Compact_int Try.lays2n20 g 0 cc ms w2 p1 (by have := HM.out; omega) p5
      rw [← p4] at cC
      have HCP := Mm.hid (fun (q2 : Nat) => hS.1.compacted q2)
      have HB2 : Hid (Below w.heap.size w w2) := Mm.hid (HB.out.grown hS.2 HB.out.size (fun i hi => by injection hi with hi; have := HQ.out.1; omega))
      have H02 : Hid (w2.heap[w.heap.size]? = some (.cells #[.slice none 0 0, .slice none 0 0] 39 (0, 0))) := Mm.hid ((hS.2.block w.heap.size (by have := HS.out; omega) (fun e => by injection e with e; have := HQ.out.1; omega)).trans H0.out)
      have HSZ2 : Hid (w.heap.size + 1 < w2.heap.size) := Mm.hid (Nat.lt_of_lt_of_le HS.out hS.2.size)
      obtain ⟨N, hN⟩ : ∃ N, N = (Lib.compact ms).length := ⟨_, rfl⟩
      rw [← hN] at cC
      have HCC := Mm.hid cC
      have hN1 : N < 2000 := by have := Mm.compact_len ms; have := HM.out; omega
      have HN := Mm.hid hN
      have HML := Mm.hid hml
      clear hS p1 p2 p3 p4 p5 p6 cC hms HCS HSS HW0 hN hml
      go_wp2_with (first
        | (go_at_call 26
           refine HCC.out.mono ?_
           rintro e w3 ⟨rfl, nq2, hw0⟩
           have h3 := HCP.out nq2
           rw [← HML.out, ← HN.out, ← hw0, ← HNL.out] at h3
           have HW3 := Mm.hid h3
           clear hw0 h3)
        | (at_make
           refine Mm.mkS _ rfl _ _ rfl N rfl rfl (by omega) ?_
           intro w4 hown4 hg4 hs4
           simp only [World.size_alloc] at hown4 hs4
           have hb4 : w4.heap[w3.heap.size]? = some (.cells #[.slice (some ⟨g, 0, none⟩) N cc, .slice none 0 0] 39 (0, 0)) := (hg4.block w3.heap.size (by simp) (fun e => nomatch e)).trans (Mm.newAt w3 _ rfl)
           have c41 : w4.cell? ⟨w3.heap.size, 1, none⟩ = some (.slice none 0 0) := Mm.cellOf hb4 rfl
           have f41 : w4.frozen? ⟨w3.heap.size, 1, none⟩ = false := by simp [World.frozen?, hb4]
           have HX4 := Mm.hid (And.intro hown4 (And.intro (Mm.grAl hg4) (And.intro hs4 hb4)))
           clear hown4 hg4 hs4 hb4))
      have HB3 : Hid (Below w.heap.size w w3) := Mm.hid (HB2.out.grown HW3.out.2 HB2.out.size (fun i hi => by injection hi with hi; have := HQ.out.1; omega))
      have HZ3 : Hid (w.heap.size + 1 < w3.heap.size) := Mm.hid (Nat.lt_of_lt_of_le HSZ2.out HW3.out.2.size)
      have H03 : Hid (w3.heap[w.heap.size]? = some (.cells #[.slice none 0 0, .slice none 0 0] 39 (0, 0))) := Mm.hid ((HW3.out.2.block w.heap.size (by have := HSZ2.out; omega) (fun e => by injection e with e; have := HQ.out.1; omega)).trans H02.out)
      obtain ⟨B, hB⟩ : ∃ B, B = w3.heap.size := ⟨_, rfl⟩
      obtain ⟨w5, hw5⟩ : ∃ w5, w4.setCell ⟨w3.heap.size, 1, none⟩ (.slice (some ⟨w3.heap.size + 1, 0, none⟩) N N) = w5 := ⟨_, rfl⟩
      obtain ⟨ns, hns⟩ : ∃ ns, ns = Mm.nodesL l := ⟨_, rfl⟩
      have hG5 : Mm.Gb (w.heap.size + 1) w5 (fun b => if b = B then some .c else if b = B + 1 then some .e else if b = g then some .n else none) B (B + 1) (.slice (some ⟨g, 0, none⟩) N cc) ns N (List.replicate N (.slice none 0 0)) (Mm.EL ns (l.take 0)) := by
        obtain ⟨x1, x2, x3, x4⟩ := HX4.out
        have hgl := HW3.out.1.lt (g := g) rfl
        have hz3 := HZ3.out
        rw [← hB] at x1 x3 x4 hw5 hgl hz3
        have h5z : w5.heap.size = w4.heap.size := by rw [← hw5]; simp
        have h4z := x2.size
        rw [← hB] at h4z
        have hgb : w5.heap[g]? = w3.heap[g]? := by rw [← hw5]; exact (heap_setCell_other w4 _ g _ (by show g ≠ B; omega)).trans (x2.block g (by omega) (fun e => nomatch e))
        refine ⟨?_, by simp, fun b hb => ?_, fun b hb => ?_, ?_, fun g' hg' => ?_, ?_, ?_, by simp, fun i v hv => ?_⟩
        · rw [← hw5]; exact Mm.setC w4 1 _ x4
        · rw [h5z] at hb
          show (if b = B then _ else _) = none
          rw [if_neg (by omega), if_neg (by omega), if_neg (by omega)]
        · show (if b = B then _ else _) = none
          rw [if_neg (by omega), if_neg (by omega), if_neg (by omega)]
        · rw [hns]; exact HW3.out.1.keep (fun g' hg' => by injection hg' with hg'; rw [← hg']; exact hgb)
        · injection hg' with hg'
          have hg2 : g = g' := hg'
          subst hg2
          show (if g = B then _ else _) = _
          rw [if_neg (by omega), if_neg (by omega), if_pos rfl]
        · rw [← hw5]
          refine (x1.base (by omega)).keep (fun g' hg' => ?_)
          injection hg' with hg'
          exact heap_setCell_other w4 _ g' _ (by show g' ≠ B; have : B + 1 = g' := hg'; omega)
        · show (if B + 1 = B then _ else _) = _
          rw [if_neg (by omega), if_pos rfl]
        · obtain ⟨_, rfl⟩ := List.mem_replicate.1 (List.mem_of_getElem? hv)
          exact ⟨Mm.Own.nil _ _ _, fun _ e => nomatch e⟩
      have hB5 : Below w.heap.size w w5 := by
        rw [← hw5]
        exact (HB3.out.trans (Mm.grBel (by have := HZ3.out; omega) HX4.out.2.1 (fun _ e => nomatch e))).setCell (p := ⟨w3.heap.size, 1, none⟩) (by have := HZ3.out; show w.heap.size ≤ w3.heap.size; omega) _
      have h05 : w5.heap[w.heap.size]? = some (.cells #[.slice none 0 0, .slice none 0 0] 39 (0, 0)) := by
        rw [← hw5]
        exact (heap_setCell_other w4 _ _ _ (by show w.heap.size ≠ w3.heap.size; have := HZ3.out; omega)).trans ((HX4.out.2.1.block _ (by have := HZ3.out; omega) (fun e => nomatch e)).trans H03.out)
      rw [hw5, ← hB]
      have HNS := Mm.hid (And.intro hns (by rw [hns, HNL.out]; exact HN.out : N = ns.length))
      have HG5 := Mm.hid hG5
      have HB5 := Mm.hid hB5
      have H05 := Mm.hid h05
      clear hG5 hB5 h05 hw5 hB hns HX4 HW3 HB3 H03 HZ3 c41 f41 HCP HCC HB2 H02 HSZ2 HB H0 HS hlt hk
      go_loopw [37] (fun vi wq => ∃ (j : Nat) (tag : Nat → Option Mm.Lc) (sv : List Value), j ≤ k ∧ vi = .int .i64 (j : Int) ∧ Hid (Mm.Gb (w.heap.size + 1) wq tag B (B + 1) (.slice (some ⟨g, 0, none⟩) N cc) ns N sv (Mm.EL ns (l.take j))) ∧ Hid (Below w.heap.size w wq) ∧ Hid (wq.heap[w.heap.size]? = some (.cells #[.slice none 0 0, .slice none 0 0] 39 (0, 0)))) (fun vi _ => k - (RowKit.intOf vi).toNat)
      case atStart => exact ⟨0, _, _, by omega, rfl, HG5, HB5, H05⟩
      case round =>
        obtain ⟨j, tag, sv, hj, rfl, HG, HB, H0⟩ := hrel
        rename World => wq
        clear HG5 HB5 H05
        have hBlt := Mm.heapLt HG.out.cell
        by_cases hlt : j < k
        · obtain ⟨e, he⟩ : ∃ e, l[j]? = some e := ⟨_, List.getElem?_eq_getElem (by rw [← hn.out]; exact hlt)⟩
          obtain ⟨b, o, rfl, hb, c1, c2⟩ := (hl.out.below HB.out) j e he
          obtain ⟨x, y⟩ := e
          have HE := Mm.hid he
          clear he
          simp only at c1 c2
          go_wp2_with fail
          obtain ⟨wa, hwa⟩ : ∃ wa, wq.alloc (.cells #[.int .i64 x, .int .i64 y] 31) = wa := ⟨_, rfl⟩
          have hba : Below wq.heap.size wq wa := by rw [← hwa]; exact (Below.refl _ _).alloc (Nat.le_refl _) _
          have hna : wa.heap[wq.heap.size]? = some (.cells #[.int .i64 x, .int .i64 y] 31 (0, 0)) := by rw [← hwa]; exact Mm.newAt wq _ rfl
          obtain ⟨bx, hbx⟩ : ∃ bx, bx = wq.heap.size := ⟨_, rfl⟩
          rw [hwa, ← hbx]
          rw [← hbx] at hna
          have HGa := Mm.hid (HG.out.keep hba)
          have HBa := Mm.hid (Mm.belTr HB.out (Nat.le_refl _) hba)
          have HS : Hid (Mm.S13 B bx (.slice (some ⟨g, 0, none⟩) N cc) (.slice (some ⟨B + 1, 0, none⟩) N N) x y wa wa.drew) := Mm.hid ⟨Mm.cellOf HGa.out.cell rfl, Mm.cellOf HGa.out.cell rfl, Mm.cellOf hna rfl, Mm.cellOf hna rfl, (Below.refl _ _).drew⟩
          have HA0 : Hid (wa.heap[w.heap.size]? = some (.cells #[.slice none 0 0, .slice none 0 0] 39 (0, 0))) := Mm.hid ((hba.block _ (Mm.heapLt H0.out)).trans H0.out)
          have HLT : Hid (B < wa.heap.size ∧ bx < wa.heap.size) := Mm.hid ⟨Mm.heapLt HGa.out.cell, Mm.heapLt hna⟩
          have HUP : Hid (Kn.Rising ns) := Mm.hid (by rw [HNS.out.1]; exact (Mm.nodesL_spec l).1)
          clear hba hna hbx hwa c1 c2
          go_region_held3 (fun w' => w'.cell? ⟨B, 0, none⟩ = some (.slice (some ⟨g, 0, none⟩) N cc) ∧ w'.cell? ⟨B, 1, none⟩ = some (.slice (some ⟨B + 1, 0, none⟩) N N) ∧ w'.cell? ⟨bx, 0, none⟩ = some (.int .i64 x) ∧ w'.cell? ⟨bx, 1, none⟩ = some (.int .i64 y) ∧ Below wa.heap.size wa w')
            (first | exact HS.out | exact Mm.S13.keep HLT.out hb (by assumption))
            ((go_at_call 27; refine (place_any _ g cc N (.slice (some ⟨B + 1, 0, none⟩) N N) ns _ (Mm.hid ((HGa.out.N.base (Nat.zero_le _)).below (Mm.S13.bel (B := B) (bx := bx) (vN := .slice (some ⟨g, 0, none⟩) N cc) (vE := .slice (some ⟨B + 1, 0, none⟩) N N) (x := x) (y := y) (by first | assumption | exact HS.out)))) HUP HNS.out.2 (by omega)).mono ?_; rintro e w' ⟨rfl, hb⟩))
          have hbel6 : Below wa.heap.size wa w' := Mm.S13.bel (B := B) (bx := bx) (vN := .slice (some ⟨g, 0, none⟩) N cc) (vE := .slice (some ⟨B + 1, 0, none⟩) N N) (x := x) (y := y) (by assumption)
          have HG6 := Mm.hid (HGa.out.keep hbel6)
          have HB6 := Mm.hid (Mm.belTr HBa.out (Nat.le_refl _) hbel6)
          have H06 := Mm.hid ((hbel6.block _ (Mm.heapLt HA0.out)).trans HA0.out)
          obtain ⟨w6, hw6⟩ : ∃ w6, w' = w6 := ⟨_, rfl⟩
          rw [hw6] at HG6 HB6 H06 ⊢
          obtain ⟨I, hI⟩ : ∃ I, I = Mm.idx ns x := ⟨_, rfl⟩
          obtain ⟨t, ht⟩ : ∃ t, t = Mm.idx ns y := ⟨_, rfl⟩
          rw [← hI, ← ht]
          have hIN : I < N := by
            have h1 := (Mm.nodesL_spec l).2 x
            rw [← HNS.out.1] at h1
            rw [hI, HNS.out.2]
            exact (Mm.idx_of HUP.out (h1.2 ⟨_, List.mem_of_getElem? HE.out, .inl rfl⟩)).1
          obtain ⟨u, hu⟩ : ∃ u, sv[I]? = some u := ⟨_, List.getElem?_eq_getElem (by rw [HG6.out.sl]; exact hIN)⟩
          obtain ⟨qu, du, hue, _, _, _, _⟩ := (HG6.out.rows I u hu).1.shape
          obtain ⟨Lu, hLu⟩ : ∃ Lu, Lu = (Mm.nts (Mm.EL ns (l.take j) I)).length := ⟨_, rfl⟩
          rw [← hLu] at hue
          subst hue
          have HLu := Mm.hid hLu
          have HU := Mm.hid hu
          have HIT := Mm.hid (And.intro hI ht)
          clear hbel6 hw6 hI ht hLu hu HS
          have b1 : w6.cell? ⟨B, 1, none⟩ = some (.slice (some ⟨B + 1, 0, none⟩) N N) := Mm.cellOf HG6.out.cell rfl
          have b2 : w6.cell? ⟨B + 1, I, none⟩ = some (.slice qu Lu du) := (HG6.out.Es.cell HU.out).1
          have HGA := Mm.hid (HG6.out.keep ((Below.refl _ _).alloc (Nat.le_refl _) (.cells #[.int .i64 (t : Int)] 3)))
          have b3 : (w6.alloc (.cells #[.int .i64 (t : Int)] 3)).cell? ⟨B, 1, none⟩ = some (.slice (some ⟨B + 1, 0, none⟩) N N) := Mm.cellOf HGA.out.cell rfl
          have b4 : (w6.alloc (.cells #[.int .i64 (t : Int)] 3)).cell? ⟨B + 1, I, none⟩ = some (.slice qu Lu du) := (HGA.out.Es.cell HU.out).1
          have HEL : Hid (Lu < 1000) := Mm.hid (by rw [HLu.out, Mm.nts_len]; have := Mm.EL_len ns (l.take j) I; have := List.length_take_le j l; have := hn.out; rw [List.length_take] at *; omega)
          have HoA : Hid (Mm.Own (w6.alloc (.cells #[.int .i64 (t : Int)] 3)) (w.heap.size + 1) 3 (.slice qu Lu du) (Mm.nts (Mm.EL ns (l.take j) I))) := Mm.hid (HGA.out.rows I _ HU.out).1
          have HoB : Hid (Mm.Own (w6.alloc (.cells #[.int .i64 (t : Int)] 3)).drew (w.heap.size + 1) 3 (.slice qu Lu du) (Mm.nts (Mm.EL ns (l.take j) I))) := Mm.hid (HoA.out.below (Below.refl _ _).drew)
          have HcA : Hid ((w6.alloc (.cells #[.int .i64 (t : Int)] 3)).cell? ⟨w6.heap.size, 0, none⟩ = some (.int .i64 (t : Int))) := Mm.hid (Mm.cellOf (Mm.newAt w6 _ rfl) rfl)
          have HcB : Hid ((w6.alloc (.cells #[.int .i64 (t : Int)] 3)).drew.cell? ⟨w6.heap.size, 0, none⟩ = some (.int .i64 (t : Int))) := Mm.hid HcA.out
          have HzA : Hid (w.heap.size + 1 ≤ (w6.alloc (.cells #[.int .i64 (t : Int)] 3)).heap.size) := Mm.hid (by have := HB6.out.size; simp; omega)
          have HzB : Hid (w.heap.size + 1 ≤ (w6.alloc (.cells #[.int .i64 (t : Int)] 3)).drew.heap.size) := Mm.hid HzA.out
          have HlA : Hid ((Mm.nts (Mm.EL ns (l.take j) I)).length < 1000000) := Mm.hid (by rw [← HLu.out]; have := HEL.out; omega)
          go_wp2_with fail
          go_region_law (
            (first
            | refine Mm.stepI (w := (w6.alloc (.cells #[.int .i64 (t : Int)] 3)).drew) rfl _ _ rfl (w.heap.size + 1) (.slice qu Lu du) (t : Int) (Mm.nts (Mm.EL ns (l.take j) I)) rfl HoB.out w6.heap.size rfl HcB.out HlA.out HzB.out (fun v3 w3 hown3 hg3 hloc3 => ?_)
            | refine Mm.stepI (w := (w6.alloc (.cells #[.int .i64 (t : Int)] 3))) rfl _ _ rfl (w.heap.size + 1) (.slice qu Lu du) (t : Int) (Mm.nts (Mm.EL ns (l.take j) I)) rfl HoA.out w6.heap.size rfl HcA.out HlA.out HzA.out (fun v3 w3 hown3 hg3 hloc3 => ?_))
            obtain ⟨g3, n3, cc3, rfl, hn3, _⟩ := hown3.nonnil (by simp)
            have HX3 : Hid (Mm.Own w3 (w.heap.size + 1) 3 (.slice (some ⟨g3, 0, none⟩) n3 cc3) (Mm.nts (Mm.EL ns (l.take j) I) ++ [.int .i64 (t : Int)]) ∧ w6.grownBy w3 (Value.slice qu Lu du).ownBlock ∧ ((Value.slice (some ⟨g3, 0, none⟩) n3 cc3).ownBlock = (Value.slice qu Lu du).ownBlock ∨ ∀ g', (Value.slice (some ⟨g3, 0, none⟩) n3 cc3).ownBlock = some g' → w6.heap.size ≤ g')) := Mm.hid ⟨hown3, (by first | exact Mm.grAlD hg3 | exact Mm.grAl hg3), (by
              rcases hloc3 with e | e
              · exact Or.inl e
              · exact Or.inr (fun g' hg' => Nat.le_of_succ_le (by have := e g' hg'; simpa using this)))⟩
            have hb3 := HG6.out.hold HU.out HX3.out.2.1 HG6.out.tc (by simp)
            have he3 := HG6.out.hold HU.out HX3.out.2.1 HG6.out.te (by simp)
            have b5 : w3.cell? ⟨B, 1, none⟩ = some (.slice (some ⟨B + 1, 0, none⟩) N N) := (World.cell?_of_block (a := ⟨B, 1, none⟩) hb3).trans b1
            have b6 : w3.cell? ⟨B + 1, I, none⟩ = some (.slice qu Lu du) := (World.cell?_of_block (a := ⟨B + 1, I, none⟩) he3).trans b2
            have f6 : w3.frozen? ⟨B + 1, I, none⟩ = false := (World.frozen?_of_block (a := ⟨B + 1, I, none⟩) he3).trans (HG6.out.Es.cell HU.out).2
            clear hown3 hg3 hloc3 hn3 hb3 he3)
          all_goals
            clear b1 b2 b3 b4 b5 b6 f6
            go_wp2_with fail
            have hP := HG6.out.put (t := t) HU.out HX3.out.2.1 (by rw [Mm.nts_app]; exact HX3.out.1) HX3.out.2.2
            have hE2 : (fun j' => if j' = I then Mm.EL ns (l.take j) I ++ [t] else Mm.EL ns (l.take j) j') = Mm.EL ns (l.take (j + 1)) := by
              rw [Mm.take_snoc' HE.out, Mm.EL_snoc]
              simp only
              rw [← HIT.out.1, ← HIT.out.2]
            rw [hE2] at hP
            have hrl : ∀ g', (Value.slice qu Lu du).ownBlock = some g' → w.heap.size + 1 ≤ g' := fun g' e => ((HG6.out.rows I _ HU.out).1.lt e).2
            refine ⟨⟨j + 1, _, _, by omega, by go_num, hP, (HB6.out.grown HX3.out.2.1 HB6.out.size (fun g' e => Nat.le_of_succ_le (hrl g' e))).setCell (Nat.le_of_succ_le (HG6.out.Es.lt (g := B + 1) rfl).2) _, (heap_setCell_other w3 _ _ _ (by show w.heap.size ≠ B + 1; have := (HG6.out.Es.lt (g := B + 1) rfl).2; omega)).trans ((HX3.out.2.1.block _ (Mm.heapLt H06.out) (fun e => by have := hrl _ e.symm; omega)).trans H06.out)⟩, by simp [RowKit.intOf]; omega⟩
        · obtain rfl : j = k := by omega
          have hG := HG.out
          rw [List.take_of_length_le (by rw [hn.out]; exact Nat.le_refl _)] at hG
          have HGe := Mm.hid hG
          have b1 : wq.cell? ⟨B, 0, none⟩ = some (.slice (some ⟨g, 0, none⟩) N cc) := Mm.cellOf HG.out.cell rfl
          have b2 : wq.cell? ⟨B, 1, none⟩ = some (.slice (some ⟨B + 1, 0, none⟩) N N) := Mm.cellOf HG.out.cell rfl
          have b3 : wq.cell? ⟨w.heap.size, 0, none⟩ = some (.slice none 0 0) := Mm.cellOf H0.out rfl
          have b4 : wq.cell? ⟨w.heap.size, 1, none⟩ = some (.slice none 0 0) := Mm.cellOf H0.out rfl
          have f3 : wq.frozen? ⟨w.heap.size, 0, none⟩ = false := by simp [World.frozen?, H0.out]
          have f4 : wq.frozen? ⟨w.heap.size, 1, none⟩ = false := by simp [World.frozen?, H0.out]
          clear hG HG
          go_wp2_with fail
          obtain ⟨h1, h2⟩ := HNS.out
          have hgr := HGe.out.gr h2 (w' := (wq.setCell ⟨w.heap.size, 0, none⟩ (.slice (some ⟨g, 0, none⟩) N cc)).setCell ⟨w.heap.size, 1, none⟩ (.slice (some ⟨B + 1, 0, none⟩) N N)) (by simp) (fun b hb => (heap_setCell_other _ _ b _ (by show b ≠ w.heap.size; omega)).trans (heap_setCell_other _ _ b _ (by show b ≠ w.heap.size; omega)))
          have hbl : Below w.heap.size w ((wq.setCell ⟨w.heap.size, 0, none⟩ (.slice (some ⟨g, 0, none⟩) N cc)).setCell ⟨w.heap.size, 1, none⟩ (.slice (some ⟨B + 1, 0, none⟩) N N)) := (HB.out.setCell (p := ⟨w.heap.size, 0, none⟩) (Nat.le_refl _) _).setCell (p := ⟨w.heap.size, 1, none⟩) (Nat.le_refl _) _
          have hlt2 := Mm.heapLt H0.out
          have hz0 : ((wq.setCell ⟨w.heap.size, 0, none⟩ (.slice (some ⟨g, 0, none⟩) N cc)).setCell ⟨w.heap.size, 1, none⟩ (.slice (some ⟨B + 1, 0, none⟩) N N)).heap[w.heap.size]? = some (.cells #[.slice (some ⟨g, 0, none⟩) N cc, .slice (some ⟨B + 1, 0, none⟩) N N] 39 (0, 0)) := Mm.setC _ 1 _ (Mm.setC _ 0 _ H0.out)
          have y0 := Mm.cellOf hz0 (i := 0) rfl
          have y1 := Mm.cellOf hz0 (i := 1) rfl
          obtain ⟨W, hW⟩ : ∃ W, (wq.setCell ⟨w.heap.size, 0, none⟩ (.slice (some ⟨g, 0, none⟩) N cc)).setCell ⟨w.heap.size, 1, none⟩ (.slice (some ⟨B + 1, 0, none⟩) N N) = W := ⟨_, rfl⟩
          rw [hW] at hgr hbl y0 y1 ⊢
          subst h2
          subst h1
          refine bodyPost_ret (v := .agg #[.slice (some ⟨g, 0, none⟩) (Mm.nodesL l).length cc, .slice (some ⟨B + 1, 0, none⟩) (Mm.nodesL l).length (Mm.nodesL l).length]) (by simp [results, Try.results17, go_sem, y0, y1]) rfl ⟨g, cc, B + 1, sv, rfl, hgr, hbl⟩
end Go.Proofs.Ythikdfcndppoaaa
