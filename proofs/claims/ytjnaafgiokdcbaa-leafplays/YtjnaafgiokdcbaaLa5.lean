/- Leaves in memory. -/
import Derived.Test.YtjnaafgiokdcbaaLa3
import Derived.Test.YtjnaafgiokdcbaaLa4
namespace Go.Proofs.Ytjnaafgiokdcbaa
open Go.RowKit

namespace Lf
/-- What a block of the leaves' is for. -/
inductive Tg | hd | row | pg (n : Nat) | ks (n : Nat)
def strs (l : List ByteArray) : List Value := l.map Value.string
def ptrs (bl : Nat → Nat) (l : List Pg) : List Value := l.map (fun P => .pointer (some ⟨bl P.n, 0, none⟩))
@[simp] theorem strs_len (l : List ByteArray) : (strs l).length = l.length := by simp [strs]
@[simp] theorem ptrs_len (bl : Nat → Nat) (l : List Pg) : (ptrs bl l).length = l.length := by simp [ptrs]
theorem strs_at {l : List ByteArray} {i : Nat} {k : ByteArray} (h : l[i]? = some k) : (strs l)[i]? = some (.string k) := by simp [strs, h]
theorem ptrs_at {bl : Nat → Nat} {l : List Pg} {i : Nat} {P : Pg} (h : l[i]? = some P) : (ptrs bl l)[i]? = some (.pointer (some ⟨bl P.n, 0, none⟩)) := by simp [ptrs, h]
theorem strs_one (l : List ByteArray) : ∀ v ∈ strs l, v.oneCell' = true := fun v hv => by obtain ⟨_, _, rfl⟩ := List.mem_map.1 hv; rfl
theorem ptrs_one (bl : Nat → Nat) (l : List Pg) : ∀ v ∈ ptrs bl l, v.oneCell' = true := fun v hv => by obtain ⟨_, _, rfl⟩ := List.mem_map.1 hv; rfl

structure PgIn (h : Nat) (w : World) (tag : Nat → Option Tg) (b : Nat) (v : Value) (P : Pg) : Prop where
  cell : w.heap[b]? = some (.cells #[.int .i64 (P.n : Int), .string P.b, v] 63 (0, 0))
  tb : tag b = some (.pg P.n)
  own : Mm.Own w h 9 v (strs P.ks)
  tk : ∀ g, v.ownBlock = some g → tag g = some (.ks P.n)

structure Mem (h : Nat) (w : World) (tag : Nat → Option Tg) (p : Nat) (s : S) (bl : Nat → Nat) (kv : Nat → Value) (rv : Value) : Prop where
  cell : w.heap[p]? = some (.cells #[.int .i64 (s.fan : Int), rv, .int .i64 (s.last : Int), .int .i64 (s.count : Int)] 66 (0, 0))
  tp : tag p = some .hd
  top : ∀ b, w.heap.size ≤ b → tag b = none
  bot : ∀ b, b < h → tag b = none
  row : Mm.Own w h 61 rv (ptrs bl s.pgs)
  tr : ∀ g, rv.ownBlock = some g → tag g = some .row
  pg : ∀ P ∈ s.pgs, PgIn h w tag (bl P.n) (kv P.n) P

/-- From world to world: nothing that is not the leaves' has turned. -/
structure Ev (tag tag' : Nat → Option Tg) (w w' : World) : Prop where
  os : w'.os = w.os
  tape : w'.tape = w.tape
  output : w'.output = w.output
  size : w.heap.size ≤ w'.heap.size
  block : ∀ b, b < w.heap.size → tag b = none → w'.heap[b]? = w.heap[b]?
  tags : ∀ b, b < w.heap.size → tag b = none → tag' b = none
theorem Ev.refl (tag : Nat → Option Tg) (w : World) : Ev tag tag w w := ⟨rfl, rfl, rfl, Nat.le_refl _, fun _ _ _ => rfl, fun _ _ h => h⟩
theorem Ev.trans {t1 t2 t3 : Nat → Option Tg} {a b c : World} (h : Ev t1 t2 a b) (k : Ev t2 t3 b c) : Ev t1 t3 a c :=
  ⟨k.os.trans h.os, k.tape.trans h.tape, k.output.trans h.output, Nat.le_trans h.size k.size, fun i hi ht => (k.block i (Nat.lt_of_lt_of_le hi h.size) (h.tags i hi ht)).trans (h.block i hi ht), fun i hi ht => k.tags i (Nat.lt_of_lt_of_le hi h.size) (h.tags i hi ht)⟩
theorem Ev.below {t : Nat → Option Tg} {a b : World} (h : Below a.heap.size a b) : Ev t t a b := ⟨h.os, h.tape, h.output, h.size, fun i hi _ => h.block i hi, fun _ _ h => h⟩
/-- All that lies below the leaves' first block stays. -/
theorem Ev.bel {t t' : Nat → Option Tg} {a b : World} (k : Ev t t' a b) {h : Nat} (hh : h ≤ a.heap.size) (hb : ∀ i, i < h → t i = none) : Below h a b := ⟨k.os, k.tape, k.output, k.size, fun i hi => k.block i (Nat.lt_of_lt_of_le hi hh) (hb i hi)⟩

variable {h : Nat} {w : World} {tag : Nat → Option Tg} {p : Nat} {s : S} {bl : Nat → Nat} {kv : Nat → Value} {rv : Value}
theorem Mem.lt (H : Mem h w tag p s bl kv rv) : p < w.heap.size := Mm.heapLt H.cell
theorem Mem.lts (H : Mem h w tag p s bl kv rv) {b : Nat} {l : Tg} (hb : tag b = some l) : b < w.heap.size := by
  rcases Nat.lt_or_ge b w.heap.size with c | c
  · exact c
  · rw [H.top b c] at hb; cases hb
theorem Mem.ge (H : Mem h w tag p s bl kv rv) {b : Nat} {l : Tg} (hb : tag b = some l) : h ≤ b := by
  rcases Nat.lt_or_ge b h with c | c
  · rw [H.bot b c] at hb; cases hb
  · exact c
theorem apart {tag : Nat → Option Tg} {a b : Nat} {l l' : Tg} (h : tag a = some l) (h' : tag b = some l') (hne : l ≠ l') : a ≠ b := fun e => hne (by rw [e, h'] at h; injection h.symm)
theorem PgIn.keep {b : Nat} {v : Value} {P : Pg} (H : PgIn h w tag b v P) {w' : World} {tag' : Nat → Option Tg} (k1 : w'.heap[b]? = w.heap[b]?) (k2 : ∀ g, v.ownBlock = some g → w'.heap[g]? = w.heap[g]?) (t1 : tag' b = some (.pg P.n)) (t2 : ∀ g, v.ownBlock = some g → tag' g = some (.ks P.n)) : PgIn h w' tag' b v P :=
  ⟨k1.trans H.cell, t1, H.own.keep k2, t2⟩
theorem Mem.keep (H : Mem h w tag p s bl kv rv) {w' : World} (hz : w.heap.size ≤ w'.heap.size) (hk : ∀ b l, tag b = some l → w'.heap[b]? = w.heap[b]?) : Mem h w' tag p s bl kv rv :=
  ⟨(hk p _ H.tp).trans H.cell, H.tp, fun b hb => H.top b (Nat.le_trans hz hb), H.bot, H.row.keep (fun g hg => hk g _ (H.tr g hg)), H.tr, fun P hP => (H.pg P hP).keep (hk _ _ (H.pg P hP).tb) (fun g hg => hk g _ ((H.pg P hP).tk g hg)) (H.pg P hP).tb (H.pg P hP).tk⟩
theorem Mem.below (H : Mem h w tag p s bl kv rv) {w' : World} (hb : Below w.heap.size w w') : Mem h w' tag p s bl kv rv := H.keep hb.size (fun b _ ht => hb.block b (H.lts ht))
theorem Mem.drew (H : Mem h w tag p s bl kv rv) : Mem h w.drew tag p s bl kv rv := H.keep (Nat.le_refl _) (fun _ _ _ => rfl)
theorem Mem.c0 (H : Mem h w tag p s bl kv rv) : w.cell? ⟨p, 0, none⟩ = some (.int .i64 (s.fan : Int)) := Mm.cellOf H.cell rfl
theorem Mem.c1 (H : Mem h w tag p s bl kv rv) : w.cell? ⟨p, 1, none⟩ = some rv := Mm.cellOf H.cell rfl
theorem Mem.c2 (H : Mem h w tag p s bl kv rv) : w.cell? ⟨p, 2, none⟩ = some (.int .i64 (s.last : Int)) := Mm.cellOf H.cell rfl
theorem Mem.c3 (H : Mem h w tag p s bl kv rv) : w.cell? ⟨p, 3, none⟩ = some (.int .i64 (s.count : Int)) := Mm.cellOf H.cell rfl
theorem Mem.fr (H : Mem h w tag p s bl kv rv) (i : Nat) : w.frozen? ⟨p, i, none⟩ = false := by simp [World.frozen?, H.cell]
/-- A leaf's cells, and where the row of leaves lies. -/
theorem Mem.at (H : Mem h w tag p s bl kv rv) {i : Nat} {P : Pg} (hP : s.pgs[i]? = some P) : ∃ g c, rv = .slice (some ⟨g, 0, none⟩) s.pgs.length c ∧ s.pgs.length ≤ c ∧ i < s.pgs.length ∧ w.cell? ⟨g, i, none⟩ = some (.pointer (some ⟨bl P.n, 0, none⟩)) ∧ w.cell? ⟨bl P.n, 0, none⟩ = some (.int .i64 (P.n : Int)) ∧ w.cell? ⟨bl P.n, 1, none⟩ = some (.string P.b) ∧ w.cell? ⟨bl P.n, 2, none⟩ = some (kv P.n) := by
  obtain ⟨g, c, h1, h2, h3, _, h5⟩ := H.row.at (ptrs_at hP)
  have hp := (H.pg P (List.mem_of_getElem? hP)).cell
  rw [ptrs_len] at h1 h2 h5
  exact ⟨g, c, h1, h2, h5, h3, Mm.cellOf hp rfl, Mm.cellOf hp rfl, Mm.cellOf hp rfl⟩
/-- A leaf's keys in memory. -/
theorem Mem.ks (H : Mem h w tag p s bl kv rv) {P : Pg} (hP : P ∈ s.pgs) : ∃ q c, kv P.n = .slice q P.ks.length c ∧ P.ks.length ≤ c ∧ c ≤ maxLen ∧ (q = none → P.ks = [] ∧ c = 0) ∧ (q = none ∨ ∃ g, q = some ⟨g, 0, none⟩) ∧ ∀ (j : Nat) k, P.ks[j]? = some k → ∃ g, q = some ⟨g, 0, none⟩ ∧ w.cell? ⟨g, j, none⟩ = some (.string k) := by
  have ho := (H.pg P hP).own
  rcases ho.2 with ⟨e1, e2⟩ | ⟨g, cap, cur, e1, e2, e3, e4, e5, e6⟩
  · have e : P.ks = [] := List.length_eq_zero_iff.1 (by simpa using e2)
    exact ⟨none, 0, by rw [e1, e]; rfl, by rw [e]; exact Nat.le_refl _, Nat.zero_le _, fun _ => ⟨e, rfl⟩, Or.inl rfl, fun j k hk => by rw [e] at hk; cases hk⟩
  · refine ⟨some ⟨g, 0, none⟩, cap, by rw [e1, strs_len], by simpa using e4, e5, (fun h => nomatch h), Or.inr ⟨g, rfl⟩, fun j k hk => ⟨g, rfl, ?_⟩⟩
    have ho2 := ho
    rw [e1] at ho2
    exact (ho2.cell (strs_at hk)).1

/-- A store into the leaves' own cells. -/
theorem Mem.setHd (H : Mem h w tag p s bl kv rv) (i : Nat) (v : Value) {s' : S} (hc : (w.setCell ⟨p, i, none⟩ v).heap[p]? = some (.cells #[.int .i64 (s'.fan : Int), rv, .int .i64 (s'.last : Int), .int .i64 (s'.count : Int)] 66 (0, 0))) (hp : s'.pgs = s.pgs) : Mem h (w.setCell ⟨p, i, none⟩ v) tag p s' bl kv rv ∧ Ev tag tag w (w.setCell ⟨p, i, none⟩ v) := by
  have k : ∀ b l, tag b = some l → l ≠ .hd → (w.setCell ⟨p, i, none⟩ v).heap[b]? = w.heap[b]? := fun b l e hl => heap_setCell_other w _ b _ (apart e H.tp hl)
  refine ⟨⟨hc, H.tp, fun b hb => H.top b (by simpa using hb), H.bot, ?_, H.tr, ?_⟩, rfl, rfl, rfl, by simp, fun b _ ht => heap_setCell_other w _ b _ (fun e => ?_), fun _ _ h => h⟩
  · rw [hp]; exact H.row.keep (fun g hg => k g _ (H.tr g hg) (by simp))
  · rw [hp]; exact fun P hP => (H.pg P hP).keep (k _ _ (H.pg P hP).tb (by simp)) (fun g hg => k g _ ((H.pg P hP).tk g hg) (by simp)) (H.pg P hP).tb (H.pg P hP).tk
  · have e' : b = p := e
    rw [e', H.tp] at ht; cases ht
theorem Mem.setCount (H : Mem h w tag p s bl kv rv) (c : Nat) : Mem h (w.setCell ⟨p, 3, none⟩ (.int .i64 (c : Int))) tag p { s with count := c } bl kv rv ∧ Ev tag tag w (w.setCell ⟨p, 3, none⟩ (.int .i64 (c : Int))) :=
  H.setHd 3 _ (heap_setCell_same w p 3 _ _ _ H.cell) rfl
theorem Mem.setLast (H : Mem h w tag p s bl kv rv) (c : Nat) : Mem h (w.setCell ⟨p, 2, none⟩ (.int .i64 (c : Int))) tag p { s with last := c } bl kv rv ∧ Ev tag tag w (w.setCell ⟨p, 2, none⟩ (.int .i64 (c : Int))) :=
  H.setHd 2 _ (heap_setCell_same w p 2 _ _ _ H.cell) rfl

def tagW (tag : Nat → Option Tg) (o : Option Nat) (l : Tg) : Nat → Option Tg := fun b => if o = some b then some l else tag b
def upd {α : Type} (f : Nat → α) (n : Nat) (v : α) : Nat → α := fun m => if m = n then v else f m
theorem upd_same {α : Type} (f : Nat → α) (n : Nat) (v : α) : upd f n v n = v := if_pos rfl
theorem upd_other {α : Type} (f : Nat → α) {n m : Nat} (v : α) (h : m ≠ n) : upd f n v m = f m := if_neg h
theorem nd_mid {L R : List Pg} {P : Pg} (h : (L ++ P :: R).Pairwise (fun P Q => P.n ≠ Q.n)) : (∀ Q ∈ L, Q.n ≠ P.n) ∧ (∀ Q ∈ R, Q.n ≠ P.n) := by
  obtain ⟨_, h2, h3⟩ := List.pairwise_append.1 h
  exact ⟨fun Q hQ => h3 Q hQ P (by simp), fun Q hQ e => (List.pairwise_cons.1 h2).1 Q hQ e.symm⟩
/-- A leaf's keys anew: a row that lies where it lay, or in new memory. -/
theorem Mem.putKeys (H : Mem h w tag p s bl kv rv) {L R : List Pg} {P : Pg} (he : s.pgs = L ++ P :: R) (hn : s.pgs.Pairwise (fun P Q => P.n ≠ Q.n)) {w1 : World} {v : Value} {ks : List ByteArray} (hg : w.grownBy w1 (kv P.n).ownBlock) (hv : Mm.Own w1 h 9 v (strs ks)) (ho : v.ownBlock = (kv P.n).ownBlock ∨ ∀ g, v.ownBlock = some g → w.heap.size ≤ g) :
    Mem h (w1.setCell ⟨bl P.n, 2, none⟩ v) (tagW tag v.ownBlock (.ks P.n)) p { s with pgs := L ++ withKs P ks :: R } bl (upd kv P.n v) rv ∧ Ev tag (tagW tag v.ownBlock (.ks P.n)) w (w1.setCell ⟨bl P.n, 2, none⟩ v) := by
  have hP : P ∈ s.pgs := by rw [he]; simp
  have hpg := H.pg P hP
  rw [he] at hn
  obtain ⟨n1, n2⟩ := nd_mid hn
  have hold : ∀ b l, tag b = some l → l ≠ .ks P.n → w1.heap[b]? = w.heap[b]? := fun b l e hl => hg.block b (H.lts e) (fun e2 => hl (by have := hpg.tk b e2.symm; rw [this] at e; injection e.symm))
  have k : ∀ b l, tag b = some l → l ≠ .ks P.n → l ≠ .pg P.n → (w1.setCell ⟨bl P.n, 2, none⟩ v).heap[b]? = w.heap[b]? := fun b l e h1 h2 => (heap_setCell_other w1 _ b _ (apart e hpg.tb h2)).trans (hold b l e h1)
  have tk : ∀ b l, tag b = some l → l ≠ .ks P.n → tagW tag v.ownBlock (.ks P.n) b = some l := fun b l e hl => by
    unfold tagW
    rw [if_neg (fun e2 => ?_)]
    · exact e
    · rcases ho with ho | ho
      · have := hpg.tk b (by rw [← ho, e2]); rw [this] at e; exact hl (by injection e.symm)
      · have := ho b e2; have := H.lts e; omega
  have oth : ∀ Q ∈ s.pgs, Q.n ≠ P.n → PgIn h (w1.setCell ⟨bl P.n, 2, none⟩ v) (tagW tag v.ownBlock (.ks P.n)) (bl Q.n) (upd kv P.n v Q.n) Q := fun Q hQ hne => by
    rw [upd_other kv v hne]
    have q := H.pg Q hQ
    have x1 : Tg.pg Q.n ≠ .pg P.n := fun e => hne (by injection e)
    have x2 : Tg.ks Q.n ≠ .ks P.n := fun e => hne (by injection e)
    exact q.keep (k _ _ q.tb (by simp) x1) (fun g hg => k g _ (q.tk g hg) x2 (by simp)) (tk _ _ q.tb (by simp)) (fun g hg => tk g _ (q.tk g hg) x2)
  have eptr : ptrs bl (L ++ withKs P ks :: R) = ptrs bl s.pgs := by rw [he]; simp [ptrs, withKs]
  refine ⟨⟨(k p _ H.tp (by simp) (by simp)).trans H.cell, tk p _ H.tp (by simp), fun b hb => ?_, fun b hb => ?_, ?_, fun g hg => tk g _ (H.tr g hg) (by simp), fun Q hQ => ?_⟩, hg.os, hg.tape, hg.output, by simpa using hg.size, fun b hb ht => ?_, fun b hb ht => ?_⟩
  · have hb' : w1.heap.size ≤ b := by simpa using hb
    unfold tagW
    rw [if_neg (fun e => by have := (hv.lt e).1; omega)]
    exact H.top b (Nat.le_trans hg.size hb')
  · unfold tagW
    rw [if_neg (fun e => by have := (hv.lt e).2; omega)]
    exact H.bot b hb
  · show Mm.Own _ h _ rv (ptrs bl (L ++ withKs P ks :: R))
    rw [eptr]
    exact H.row.keep (fun g hg => k g _ (H.tr g hg) (by simp) (by simp))
  · have hQ' : Q ∈ L ++ withKs P ks :: R := hQ
    rcases List.mem_append.1 hQ' with h1 | h1
    · exact oth Q (by rw [he]; simp [h1]) (n1 Q h1)
    · rcases List.mem_cons.1 h1 with h1 | h1
      · subst h1
        have e1 : (withKs P ks).n = P.n := rfl
        rw [e1, upd_same]
        refine ⟨?_, tk _ _ hpg.tb (by simp), ?_, fun g hg => by unfold tagW; rw [if_pos hg]; rfl⟩
        · exact heap_setCell_same w1 (bl P.n) 2 _ _ _ ((hold _ _ hpg.tb (by simp)).trans hpg.cell)
        · refine hv.keep (fun g hgv => heap_setCell_other w1 _ g _ (fun e => ?_))
          have e' : g = bl P.n := e
          rcases ho with ho | ho
          · have := hpg.tk g (by rw [← ho, hgv]); rw [e', hpg.tb] at this; cases this
          · have := ho g hgv; have := H.lts hpg.tb; omega
      · exact oth Q (by rw [he]; simp [h1]) (n2 Q h1)
  · refine (heap_setCell_other w1 _ b _ (fun e => ?_)).trans (hg.block b hb (fun e => ?_))
    · have e' : b = bl P.n := e
      rw [e', hpg.tb] at ht; cases ht
    · have := hpg.tk b e.symm; rw [ht] at this; cases this
  · unfold tagW
    rw [if_neg (fun e => ?_)]
    · exact ht
    · rcases ho with ho | ho
      · have := hpg.tk b (by rw [← ho, e]); rw [ht] at this; cases this
      · have := ho b e; omega
/-- The row of leaves anew. -/
theorem Mem.putRow (H : Mem h w tag p s bl kv rv) {w1 : World} {v : Value} {pgs : List Pg} {tag1 : Nat → Option Tg} {bl1 : Nat → Nat} {kv1 : Nat → Value} (hg : w.grownBy w1 rv.ownBlock) (hv : Mm.Own w1 h 61 v (ptrs bl1 pgs)) (ho : v.ownBlock = rv.ownBlock ∨ ∀ g, v.ownBlock = some g → w.heap.size ≤ g ∧ tag1 g = none)
    (t1 : ∀ b l, tag b = some l → tag1 b = some l) (t2 : ∀ b, w1.heap.size ≤ b → tag1 b = none) (t3 : ∀ b, b < w.heap.size → tag b = none → tag1 b = none) (t4 : ∀ b, b < h → tag1 b = none) (hp : ∀ P ∈ pgs, PgIn h w1 tag1 (bl1 P.n) (kv1 P.n) P) :
    Mem h (w1.setCell ⟨p, 1, none⟩ v) (tagW tag1 v.ownBlock .row) p { s with pgs := pgs } bl1 kv1 v ∧ Ev tag (tagW tag1 v.ownBlock .row) w (w1.setCell ⟨p, 1, none⟩ v) := by
  have hhd : w1.heap[p]? = w.heap[p]? := hg.block p H.lt (fun e => by have := H.tr p e.symm; rw [H.tp] at this; cases this)
  have tk : ∀ b l, tag1 b = some l → l ≠ .row → tagW tag1 v.ownBlock .row b = some l := fun b l e hl => by
    unfold tagW
    rw [if_neg (fun e2 => ?_)]
    · exact e
    · rcases ho with ho | ho
      · have := t1 b _ (H.tr b (by rw [← ho, e2])); rw [this] at e; exact hl (by injection e.symm)
      · rw [(ho b e2).2] at e; cases e
  have hpp := t1 p _ H.tp
  have k : ∀ b l, tag1 b = some l → l ≠ .hd → (w1.setCell ⟨p, 1, none⟩ v).heap[b]? = w1.heap[b]? := fun b l e hl => heap_setCell_other w1 _ b _ (apart e hpp hl)
  refine ⟨⟨heap_setCell_same w1 p 1 _ _ _ (hhd.trans H.cell), tk p _ hpp (by simp), fun b hb => ?_, fun b hb => ?_, ?_, fun g hg => by unfold tagW; rw [if_pos hg], fun P hP => ?_⟩, hg.os, hg.tape, hg.output, by simpa using hg.size, fun b hb ht => ?_, fun b hb ht => ?_⟩
  · have hb' : w1.heap.size ≤ b := by simpa using hb
    unfold tagW
    rw [if_neg (fun e => by have := (hv.lt e).1; omega)]
    exact t2 b hb'
  · unfold tagW
    rw [if_neg (fun e => by have := (hv.lt e).2; omega)]
    exact t4 b hb
  · refine hv.keep (fun g hgv => heap_setCell_other w1 _ g _ (fun e => ?_))
    have e' : g = p := e
    rcases ho with ho | ho
    · have := H.tr g (by rw [← ho, hgv]); rw [e', H.tp] at this; cases this
    · have := (ho g hgv).1; have := H.lt; omega
  · have q := hp P hP
    exact q.keep (k _ _ q.tb (by simp)) (fun g hg => k g _ (q.tk g hg) (by simp)) (tk _ _ q.tb (by simp)) (fun g hg => tk g _ (q.tk g hg) (by simp))
  · refine (heap_setCell_other w1 _ b _ (fun e => ?_)).trans (hg.block b hb (fun e => ?_))
    · have e' : b = p := e
      rw [e', H.tp] at ht; cases ht
    · have := H.tr b e.symm; rw [ht] at this; cases this
  · unfold tagW
    rw [if_neg (fun e => ?_)]
    · exact t3 b hb ht
    · rcases ho with ho | ho
      · have := H.tr b (by rw [← ho, e]); rw [ht] at this; cases this
      · have := (ho b e).1; omega
/-- The first leaf has no bound. -/
theorem Mem.setB (H : Mem h w tag p s bl kv rv) {P : Pg} {r : List Pg} (he : s.pgs = P :: r) (hn : s.pgs.Pairwise (fun P Q => P.n ≠ Q.n)) : Mem h (w.setCell ⟨bl P.n, 1, none⟩ (.string ⟨#[]⟩)) tag p { s with pgs := open1 s.pgs } bl kv rv ∧ Ev tag tag w (w.setCell ⟨bl P.n, 1, none⟩ (.string ⟨#[]⟩)) := by
  have hpg := H.pg P (by rw [he]; simp)
  have k : ∀ b l, tag b = some l → l ≠ .pg P.n → (w.setCell ⟨bl P.n, 1, none⟩ (.string ⟨#[]⟩)).heap[b]? = w.heap[b]? := fun b l e hl => heap_setCell_other w _ b _ (apart e hpg.tb hl)
  refine ⟨⟨(k p _ H.tp (by simp)).trans H.cell, H.tp, fun b hb => H.top b (by simpa using hb), H.bot, ?_, H.tr, fun Q hQ => ?_⟩, rfl, rfl, rfl, by simp, fun b _ ht => heap_setCell_other w _ b _ (fun e => ?_), fun _ _ h => h⟩
  · have e : ptrs bl (open1 s.pgs) = ptrs bl s.pgs := by rw [he]; rfl
    show Mm.Own _ h _ rv (ptrs bl (open1 s.pgs))
    rw [e]
    exact H.row.keep (fun g hg => k g _ (H.tr g hg) (by simp))
  · have hQ' : Q ∈ open1 s.pgs := hQ
    rw [he] at hQ'
    rcases List.mem_cons.1 hQ' with h1 | h1
    · subst h1
      refine ⟨heap_setCell_same w (bl P.n) 1 _ _ _ hpg.cell, hpg.tb, hpg.own.keep (fun g hg => k g _ (hpg.tk g hg) (by simp)), hpg.tk⟩
    · have q := H.pg Q (by rw [he]; simp [h1])
      rw [he] at hn
      have hne := (List.pairwise_cons.1 hn).1 Q h1
      have x1 : Tg.pg Q.n ≠ .pg P.n := fun e => hne (by injection e with e; exact e.symm)
      exact q.keep (k _ _ q.tb x1) (fun g hg => k g _ (q.tk g hg) (by simp)) q.tb q.tk
  · have e' : b = bl P.n := e
    rw [e', hpg.tb] at ht; cases ht
end Lf
end Go.Proofs.Ytjnaafgiokdcbaa
