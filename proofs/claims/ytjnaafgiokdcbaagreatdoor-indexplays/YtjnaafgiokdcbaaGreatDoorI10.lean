/- Steps in rows of one's own; entries that were added and not dropped. -/
import Derived.Test.YtjnaafgiokdcbaaGreatDoorI8
namespace Go.Proofs.YtjnaafgiokdcbaaGreatDoor
open Go.RowKit

namespace Ix
open Vl Ky
def c10 (x : Stp) : List Value := [.int .i64 x.kd, .int .i64 x.tid, .int .i64 x.v.k, .int .i64 x.v.n, .float .f64 x.v.f, .string x.v.s, .int .i64 x.x.k, .int .i64 x.x.n, .float .f64 x.x.f, .string x.x.s]
def cellsS : List Stp → List Value
  | [] => []
  | x :: l => c10 x ++ cellsS l
theorem cellsS_len : ∀ l, (cellsS l).length = l.length * 10
  | [] => rfl
  | x :: l => by
    show (c10 x ++ cellsS l).length = _
    rw [List.length_append, cellsS_len l, List.length_cons, show (c10 x).length = 10 from rfl]
    omega
theorem cellsS_app : ∀ (a b : List Stp), cellsS (a ++ b) = cellsS a ++ cellsS b
  | [], _ => rfl
  | x :: a, b => by
    show c10 x ++ cellsS (a ++ b) = c10 x ++ cellsS a ++ cellsS b
    rw [cellsS_app a b, List.append_assoc]
theorem cellsS_at : ∀ (l : List Stp) (j : Nat) (x : Stp), l[j]? = some x → ∀ i, i < 10 → (cellsS l)[j * 10 + i]? = (c10 x)[i]?
  | [], j, x, h, _, _ => by simp at h
  | y :: l, 0, x, h, i, hi => by
    simp at h; subst h
    show (c10 y ++ cellsS l)[0 * 10 + i]? = _
    rw [Nat.zero_mul, Nat.zero_add, List.getElem?_append_left (by rw [show (c10 y).length = 10 from rfl]; exact hi)]
  | y :: l, j + 1, x, h, i, hi => by
    have ih := cellsS_at l j x (by simpa using h) i hi
    show (c10 y ++ cellsS l)[(j + 1) * 10 + i]? = _
    rw [List.getElem?_append_right (by rw [show (c10 y).length = 10 from rfl]; omega), show (c10 y).length = 10 from rfl, show (j + 1) * 10 + i - 10 = j * 10 + i from by omega]
    exact ih
theorem c10_one (x : Stp) : ∀ u ∈ c10 x, u.oneCell' = true := fun u hu => by
  simp only [c10, List.mem_cons, List.not_mem_nil, or_false] at hu
  rcases hu with rfl | rfl | rfl | rfl | rfl | rfl | rfl | rfl | rfl | rfl <;> rfl
set_option maxRecDepth 100000 in
theorem stepInfo : ∃ i, Tryz.prog.info? 36 = some i ∧ i.zero = some (.agg #[.int .i64 0, .int .i64 0, .int .i64 0, .int .i64 0, .float .f64 0, .string ⟨#[]⟩, .int .i64 0, .int .i64 0, .float .f64 0, .string ⟨#[]⟩]) ∧ i.size = 10 ∧ i.bytes = 96 := ⟨_, Tryz.type36, rfl, rfl, rfl⟩
/-- A row of steps of one's own. -/
def OwS (w : World) (base : Nat) (v : Value) (l : List Stp) : Prop := w.ownsRow base 36 10 v l.length (cellsS l)
theorem OwS.keep {w w' : World} {base : Nat} {v : Value} {l : List Stp} (h : OwS w base v l) (hk : ∀ g, v.ownBlock = some g → w'.heap[g]? = w.heap[g]?) : OwS w' base v l := by
  obtain ⟨h0, h1 | ⟨g, cap, cur, e1, e2, e3, e4⟩⟩ := h
  · exact ⟨h0, Or.inl h1⟩
  · exact ⟨h0, Or.inr ⟨g, cap, cur, e1, e2, (hk g (by rw [e1]; rfl)).trans e3, e4⟩⟩
theorem OwS.lt {w : World} {base : Nat} {v : Value} {l : List Stp} (h : OwS w base v l) {g : Nat} (hg : v.ownBlock = some g) : g < w.heap.size ∧ base ≤ g := by
  obtain ⟨_, ⟨h1, _⟩ | ⟨g', cap, cur, h1, h2, h3, _⟩⟩ := h
  · subst h1; cases hg
  · subst h1; cases hg; exact ⟨Mm.heapLt h3, h2⟩
theorem OwS.below {w w' : World} {base : Nat} {v : Value} {l : List Stp} (h : OwS w base v l) (hb : Below w.heap.size w w') : OwS w' base v l := h.keep (fun _ hg => hb.block _ (h.lt hg).1)
theorem OwS.base {w : World} {b b' : Nat} {v : Value} {l : List Stp} (h : OwS w b v l) (hb : b' ≤ b) : OwS w b' v l := by
  obtain ⟨h0, h1 | ⟨g, cap, cur, e1, e2, e3⟩⟩ := h
  · exact ⟨h0, Or.inl h1⟩
  · exact ⟨h0, Or.inr ⟨g, cap, cur, e1, Nat.le_trans hb e2, e3⟩⟩
theorem OwS.nil (w : World) (base : Nat) : OwS w base (.slice none 0 0) [] := ⟨rfl, Or.inl ⟨rfl, rfl⟩⟩
theorem OwS.shape {w : World} {base : Nat} {v : Value} {l : List Stp} (h : OwS w base v l) : ∃ p c, v = .slice p l.length c := by
  obtain ⟨_, ⟨h1, h2⟩ | ⟨g', cap, cur, h1, h2, h3, _⟩⟩ := h
  · exact ⟨none, 0, by rw [h1, h2]⟩
  · exact ⟨_, _, h1⟩
theorem OwS.at {w : World} {base n c : Nat} {p : Option Addr} {l : List Stp} (h : OwS w base (.slice p n c) l) {j : Nat} {x : Stp} (hx : l[j]? = some x) : ∃ g, p = some ⟨g, 0, none⟩ ∧ g < w.heap.size ∧ C10 w g (j * 10) x := by
  have hj := (List.getElem?_eq_some_iff.1 hx).1
  obtain ⟨_, ⟨h1, h2⟩ | ⟨g, cap, cur, e1, e2, e3, e4, e5, e6, e7⟩⟩ := h
  · omega
  · injection e1 with p1 p2 p3
    have hc : ∀ i, i < 10 → ∀ u, (c10 x)[i]? = some u → w.cell? ⟨g, j * 10 + i, none⟩ = some u := fun i hi u hu => by
      have h1 := cellsS_at l j x hx i hi
      rw [hu, ← e7, List.getElem?_take] at h1
      split at h1
      · exact Mm.cellOf e3 (by rw [← Array.getElem?_toList]; exact h1)
      · cases h1
    exact ⟨g, p1, Mm.heapLt e3, ⟨hc 0 (by omega) _ rfl, hc 1 (by omega) _ rfl, hc 2 (by omega) _ rfl, hc 3 (by omega) _ rfl, hc 4 (by omega) _ rfl, hc 5 (by omega) _ rfl, hc 6 (by omega) _ rfl, hc 7 (by omega) _ rfl, hc 8 (by omega) _ rfl, hc 9 (by omega) _ rfl⟩⟩
theorem C10.mono {w w' : World} {b o : Nat} {x : Stp} (h : C10 w b o x) (hk : w'.heap[b]? = w.heap[b]?) : C10 w' b o x := by
  have hc : ∀ i, w'.cell? ⟨b, i, none⟩ = w.cell? ⟨b, i, none⟩ := fun i => by simp only [World.cell?, hk]
  exact ⟨(hc _).trans h.c0, (hc _).trans h.c1, (hc _).trans h.c2, (hc _).trans h.c3, (hc _).trans h.c4, (hc _).trans h.c5, (hc _).trans h.c6, (hc _).trans h.c7, (hc _).trans h.c8, (hc _).trans h.c9⟩
/-- append of one step. -/
theorem appStep {ops : Array Oper} {rest : List Oper} {o : Oper} {a : Act} {Q : Exit → Act → World → Prop} (w0 : World) (hgd : o.guard = none) (s x : Operand)
    (ho : o.op = .call { callee := .builtin .append, args := #[s, x], argTypes := #[22, 22] }) (base : Nat) (v : Value) (l : List Stp) (y : Stp) (hs : a.eval s = v) (hown : OwS w0 base v l) (B : Nat) (hx : a.eval x = .slice (some ⟨B, 0, none⟩) 1 1) (hB : B = w0.heap.size) (hlen : l.length < 1000000) (hbase : base ≤ w0.heap.size)
    (h : ∀ v' w', OwS w' base v' (l ++ [y]) → w0.grownBy w' v.ownBlock → (v'.ownBlock = v.ownBlock ∨ ∀ g, v'.ownBlock = some g → w0.heap.size ≤ g) → wpList Tryz.prog ops Q rest (a.put o.dst v') w') :
    wpList Tryz.prog ops Q (o :: rest) a (w0.alloc (.cells #[.int .i64 y.kd, .int .i64 y.tid, .int .i64 y.v.k, .int .i64 y.v.n, .float .f64 y.v.f, .string y.v.s, .int .i64 y.x.k, .int .i64 y.x.n, .float .f64 y.x.f, .string y.x.s] 36)) := by
  obtain ⟨i, h1, h2, h3, h4⟩ := stepInfo
  have hn : (w0.alloc (.cells #[.int .i64 y.kd, .int .i64 y.tid, .int .i64 y.v.k, .int .i64 y.v.n, .float .f64 y.v.f, .string y.v.s, .int .i64 y.x.k, .int .i64 y.x.n, .float .f64 y.x.f, .string y.x.s] 36)).heap[B]? = some _ := Mm.newAt w0 _ hB
  refine wpList_append_own_at _ hgd s x 22 ho base 36 i _ 10 96 Tryz.underlying22 h1 h2 h3 h4 rfl (by decide) v l.length (cellsS l) hs (hown.below ((Below.refl _ _).alloc (Nat.le_refl _) _)) ⟨B, 0, none⟩ 1 1 (c10 y) hx rfl (fun j u hj => by rw [Mm.addPlain, Nat.zero_add]; exact Mm.cellOf hn (by rw [← Array.getElem?_toList]; exact hj)) (c10_one y) (by unfold maxLen; omega) (by omega) (by simp; omega) (fun v' w' h1 h2 _ h4 => h v' w' ?_ (Mm.grAl h2) ?_)
  · unfold OwS
    rw [List.length_append, cellsS_app, show cellsS [y] = c10 y from List.append_nil _]
    exact h1
  · rcases h4 with h4 | h4
    · exact Or.inl h4
    · exact Or.inr (fun g hg => by rw [h4] at hg; injection hg with hg; simp at hg; omega)

/-! What was added and not dropped. -/
def ofS (q : Stp) : V × Nat := (q.v, q.tid.toNat)
structure Okq (q : Stp) : Prop where
  g : GoodV q.v
  t : 0 ≤ q.tid ∧ q.tid ≤ 65535
theorem Okq.gd {q : Stp} (h : Okq q) : Gd (ofS q) := ⟨h.g, by have := h.t; show q.tid.toNat < 65536; omega⟩
structure Pm (s : Lf.S) (ins : List Stp) : Prop where
  ok : ∀ q ∈ ins, Okq q
  pm : ∃ E, Et s E ∧ E.Perm (ins.map ofS)
theorem pm0 (fan : Nat) : Pm (Lf.S0 fan) [] := ⟨(fun _ h => nomatch h), [], et0 fan, List.Perm.refl _⟩
theorem entE_zero {v : V} {n : Int} (hv : In v) (h : entE v n = 0) : GoodV v ∧ 0 ≤ n ∧ n ≤ 65535 ∧ entB v n = ent (v, n.toNat) := by
  obtain ⟨m, h1, h2, h3⟩ := entB_ok hv h
  subst h1
  exact ⟨h2.g, by omega, by have := h2.n; omega, by rw [h3]; rfl⟩
theorem pm_add {s s' : Lf.S} {ins : List Stp} {q : Stp} {l f t er : Nat} (h : Pm s ins) (hv : In q.v) (hr : AddR s q.v q.tid s' l f t er) : (er = 0 → Pm s' (ins ++ [q])) ∧ (er ≠ 0 → Pm s' ins) := by
  rcases hr with ⟨h0, rfl, _, _, _, he⟩ | ⟨h0, hr⟩
  · exact ⟨fun e => absurd (by rw [← he, e]; rfl) h0, fun _ => h⟩
  · obtain ⟨g1, g2, g3, g4⟩ := entE_zero hv h0
    rw [g4] at hr
    obtain ⟨E, hE, hp⟩ := h.pm
    rcases et_ins hE ⟨g1, by show q.tid.toNat < 65536; omega⟩ hr with ⟨e0, A, B, e1, h2⟩ | ⟨e0, rfl, _⟩
    · refine ⟨fun _ => ⟨fun x hx => ?_, _, h2, ?_⟩, fun e => absurd e0 e⟩
      · rcases List.mem_append.1 hx with hx | hx
        · exact h.ok x hx
        · rw [List.mem_singleton.1 hx]; exact ⟨g1, g2, g3⟩
      · rw [e1] at hp
        refine List.perm_middle.trans ?_
        rw [List.map_append]
        exact ((hp.cons _)).trans (List.perm_append_comm (l₁ := [ofS q]))
    · exact ⟨fun e => absurd e e0, fun _ => h⟩
/-- Does a step stay where s is dropped? -/
def stayB (s q : Stp) : Bool := decide (q.tid ≠ s.tid) || (!goodB s.v.k s.v.n s.v.f s.v.s || decide (cmpV q.v s.v ≠ 0))
open Classical in
theorem pm_drop {s s' : Lf.S} {ins : List Stp} {q : Stp} {l f t er : Nat} (hI : Lf.Inv s) (h : Pm s ins) (hv : In q.v) (hr : DropR s q.v q.tid s' l f t er) : Pm s' (ins.filter (stayB q)) := by
  have hok : ∀ x ∈ ins.filter (stayB q), Okq x := fun x hx => h.ok x (List.mem_filter.1 hx).1
  rcases hr with ⟨h0, rfl, _⟩ | ⟨h0, hr⟩
  · have e : ins.filter (stayB q) = ins := List.filter_eq_self.2 (fun x hx => by
      unfold stayB
      cases hg : goodB q.v.k q.v.n q.v.f q.v.s with
      | false => simp
      | true =>
        have hx' := (h.ok x hx).t
        have : x.tid ≠ q.tid := fun e => h0 (by
          unfold entE
          rw [hg, if_pos rfl, if_neg (by omega)])
        rw [decide_eq_true this]; rfl)
    rw [e]; exact h
  · obtain ⟨g1, g2, g3, g4⟩ := entE_zero hv h0
    rw [g4] at hr
    obtain ⟨E, hE, hp⟩ := h.pm
    have hcond : ∀ x ∈ ins, stayB q x = decide (ofS x ≠ (q.v, q.tid.toNat)) := fun x hx => by
      have hx' := h.ok x hx
      unfold stayB
      rw [g1.g, Bool.eq_iff_iff]
      simp only [Bool.not_true, Bool.false_or, Bool.or_eq_true, decide_eq_true_eq]
      constructor
      · rintro (e | e)
        · intro e2
          have e3 : x.tid.toNat = q.tid.toNat := congrArg Prod.snd e2
          have := hx'.t
          omega
        · intro e2
          have e3 : x.v = q.v := congrArg Prod.fst e2
          rw [e3, cmpV_self] at e
          exact e rfl
      · intro e
        by_cases h1 : x.tid = q.tid
        · refine Or.inr (fun h2 => e ?_)
          unfold ofS
          rw [good_eq hx'.g g1 h2, h1]
        · exact Or.inl h1
    have hmap : (ins.filter (stayB q)).map ofS = (ins.map ofS).filter (fun p => decide (p ≠ (q.v, q.tid.toNat))) := by
      have hx : ∀ l : List Stp, (∀ x ∈ l, stayB q x = decide (ofS x ≠ (q.v, q.tid.toNat))) → (l.filter (stayB q)).map ofS = (l.map ofS).filter (fun p => decide (p ≠ (q.v, q.tid.toNat))) := fun l => by
        induction l with
        | nil => intro _; rfl
        | cons x l ih =>
          intro hl
          have ih' := ih (fun y hy => hl y (by simp [hy]))
          have h1 := hl x (by simp)
          cases hb : stayB q x with
          | true =>
            rw [List.filter_cons_of_pos hb, List.map_cons, List.map_cons, List.filter_cons_of_pos (by rw [← h1, hb]), ih']
          | false =>
            rw [List.filter_cons_of_neg (by rw [hb]; decide), List.map_cons, List.filter_cons_of_neg (by rw [← h1, hb]; decide), ih']
      exact hx ins hcond
    have hnd : E.Nodup := (hE.up hI).imp (fun h e => by rw [e] at h; exact Lf.lt_ne h rfl)
    rcases et_rem hI hE ⟨g1, by show q.tid.toNat < 65536; omega⟩ hr with ⟨e0, A, B, e1, h2⟩ | ⟨e0, rfl, hno⟩
    · refine ⟨hok, _, h2, ?_⟩
      rw [hmap]
      have h3 := hp.filter (fun p => decide (p ≠ (q.v, q.tid.toNat)))
      refine List.Perm.trans (List.Perm.of_eq ?_) h3
      rw [e1] at hnd ⊢
      rw [List.filter_append, List.filter_cons_of_neg (by simp)]
      obtain ⟨n1, n2, n3⟩ := List.nodup_append.1 hnd
      have hA : A.filter (fun p => decide (p ≠ (q.v, q.tid.toNat))) = A := List.filter_eq_self.2 (fun x hx => decide_eq_true (fun e => n3 x hx _ (by simp) e))
      have hB : B.filter (fun p => decide (p ≠ (q.v, q.tid.toNat))) = B := List.filter_eq_self.2 (fun x hx => decide_eq_true (fun e => (List.nodup_cons.1 n2).1 (by rw [← e]; exact hx)))
      rw [hA, hB]
    · refine ⟨hok, E, hE, ?_⟩
      rw [hmap]
      have h3 := hp.filter (fun p => decide (p ≠ (q.v, q.tid.toNat)))
      refine List.Perm.trans (List.Perm.of_eq ?_) h3
      refine (List.filter_eq_self.2 (fun x hx => ?_)).symm
      simp only [decide_eq_true_eq]
      exact fun e => hno (by rw [← e]; exact hx)
/-- Of the values of a test. -/
def cntF (f : V × Nat → Bool) (ins : List Stp) : Nat := (ins.filter (fun q => f (ofS q))).length
theorem cnt_map (f : V × Nat → Bool) (ins : List Stp) : cntF f ins = ((ins.map ofS).filter f).length := by
  unfold cntF
  rw [List.filter_map, List.length_map]
  rfl
theorem cnt_snoc (f : V × Nat → Bool) (l : List Stp) (q : Stp) : cntF f (l ++ [q]) = cntF f l + (if f (ofS q) then 1 else 0) := by
  unfold cntF
  rw [List.filter_append, List.length_append]
  congr 1
  by_cases h : f (ofS q) = true
  · rw [if_pos h, List.filter_cons_of_pos (p := fun q => f (ofS q)) h]; rfl
  · rw [if_neg h, List.filter_cons_of_neg (p := fun q => f (ofS q)) h]; rfl
theorem pm_cnt {s : Lf.S} {ins : List Stp} (h : Pm s ins) (hI : Lf.Inv s) : s.count = ins.length := by
  obtain ⟨E, hE, hp⟩ := h.pm
  have h1 : (Lf.flat s.pgs).length = s.count := by rw [Lf.flat_len]; exact hI.cnt.symm
  rw [← h1, hE.e, List.length_map, hp.length_eq, List.length_map]
/-- What the two answers hold. -/
structure Ans (s : Lf.S) (ins : List Stp) (v x : V) : Prop where
  t1 : (findT s v).length = cntF (sameF v) ins
  t2 : (rangeT s v x).length = cntF (betwF v x) ins
  m1 : ∀ q ∈ ins, sameF v (ofS q) = true → q.tid ∈ (findT s v).map (fun n : Nat => (n : Int))
  m2 : ∀ q ∈ ins, betwF v x (ofS q) = true → q.tid ∈ (rangeT s v x).map (fun n : Nat => (n : Int))
  up : (findT s v).Pairwise (fun a b => a < b)
theorem ans {s : Lf.S} {ins : List Stp} {v x : V} (h : Pm s ins) (hI : Lf.Inv s) (hv : GoodV v) (hx : GoodV x) : Ans s ins v x := by
  obtain ⟨E, hE, hp⟩ := h.pm
  have e1 : findT s v = (E.filter (sameF v)).map (fun p => p.2) := by unfold findT; rw [if_pos (e0 hv), find_tids hE hI hv]
  have e2 : rangeT s v x = (E.filter (betwF v x)).map (fun p => p.2) := by unfold rangeT; rw [if_pos ⟨e0 hv, e0 hx⟩, range_tids hE hI hv hx]
  have mem : ∀ (f : V × Nat → Bool) (q : Stp), q ∈ ins → f (ofS q) = true → q.tid ∈ ((E.filter f).map (fun p => p.2)).map (fun n : Nat => (n : Int)) := fun f q hq hf => by
    have h1 : ofS q ∈ E := hp.mem_iff.2 (List.mem_map.2 ⟨q, hq, rfl⟩)
    refine List.mem_map.2 ⟨q.tid.toNat, List.mem_map.2 ⟨ofS q, List.mem_filter.2 ⟨h1, hf⟩, rfl⟩, ?_⟩
    have := (h.ok q hq).t
    omega
  refine ⟨?_, ?_, fun q hq hf => by rw [e1]; exact mem _ q hq hf, fun q hq hf => by rw [e2]; exact mem _ q hq hf, ?_⟩
  · rw [e1, List.length_map, cnt_map]; exact (hp.filter _).length_eq
  · rw [e2, List.length_map, cnt_map]; exact (hp.filter _).length_eq
  · rw [e1, List.pairwise_map]
    have hup := (hE.up hI).sublist (List.filter_sublist (p := sameF v))
    refine List.Pairwise.imp_of_mem ?_ hup
    intro a b ha hb hlt
    obtain ⟨a1, a2⟩ := List.mem_filter.1 ha
    obtain ⟨b1, b2⟩ := List.mem_filter.1 hb
    refine lt_ent (hE.g a a1) (hE.g b b1) hlt ?_
    have ga := good_eq (hE.g a a1).g hv (of_decide_eq_true a2)
    have gb := good_eq (hE.g b b1).g hv (of_decide_eq_true b2)
    rw [ga, gb]
end Ix
end Go.Proofs.YtjnaafgiokdcbaaGreatDoor
