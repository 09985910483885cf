/- A walk in memory, and what each of its steps does to it. -/
import Derived.Test.YthikdfcndppoaaaWa1
namespace Go.Proofs.Ythikdfcndppoaaa
open Go.RowKit

namespace Mm
/-- What a block of a walk's is for. -/
inductive Lb
  | p | num | low | gone | path | opn | kn | k

/-- A row whose block has a tag. -/
structure Tg (w : World) (tag : Nat → Option Lb) (h : Nat) (e : TypeId) (lb : Lb) (v : Value) (xs : List Value) : Prop where
  own : Own w h e v xs
  tg : ∀ g, v.ownBlock = some g → tag g = some lb

theorem Tg.keep {w w' : World} {tag tag' : Nat → Option Lb} {h : Nat} {e : TypeId} {lb : Lb} {v : Value} {xs : List Value} (H : Tg w tag h e lb v xs) (hk : ∀ g, g < w.heap.size → tag g = some lb → w'.heap[g]? = w.heap[g]?) (ht : ∀ g, g < w.heap.size → tag g = some lb → tag' g = some lb) : Tg w' tag' h e lb v xs :=
  ⟨H.own.keep (fun g hg => hk g (H.own.lt hg).1 (H.tg g hg)), fun g hg => ht g (H.own.lt hg).1 (H.tg g hg)⟩

/-- The slices of a walk. -/
structure Sl where
  vN : Value
  vE : Value
  vn : Value
  vl : Value
  vg : Value
  vp : Value
  vo : Value
  vk : Value

structure Wk (h : Nat) (w : World) (tag : Nat → Option Lb) (p : Nat) (ns : List Int) (s : Tj.S) (z : Sl) (kv : List Value) : Prop where
  cell : w.heap[p]? = some (.cells #[z.vN, z.vE, z.vn, z.vl, z.vg, .int .i64 (s.met : Int), z.vp, z.vo, z.vk] 42 (0, 0))
  tp : tag p = some .p
  top : ∀ b, w.heap.size ≤ b → tag b = none
  bot : ∀ b, b < h → tag b = none
  num : Tg w tag h 3 .num z.vn (fnc ns.length s.num)
  low : Tg w tag h 3 .low z.vl (fnc ns.length s.low)
  gone : Tg w tag h 3 .gone z.vg (fnc ns.length s.gone)
  path : Tg w tag h 3 .path z.vp (nts s.path)
  opn : Tg w tag h 3 .opn z.vo (nts s.opn)
  kn : Tg w tag h 28 .kn z.vk kv
  kl : kv.length = s.done.length
  ks : ∀ (i : Nat) (v : Value) (m : List Nat), kv[i]? = some v → s.done[i]? = some m → Tg w tag h 3 .k v (its (Kn.nodesOf ns m))

variable {h : Nat} {w : World} {tag : Nat → Option Lb} {p : Nat} {ns : List Int} {s : Tj.S} {z : Sl} {kv : List Value}

theorem Wk.lt (H : Wk h w tag p ns s z kv) : p < w.heap.size := heapLt H.cell
theorem Wk.ge (H : Wk h w tag p ns s z kv) {b : Nat} {l : Lb} (hb : tag b = some l) : h ≤ b := by
  rcases Nat.lt_or_ge b h with c | c
  · rw [H.bot b c] at hb; cases hb
  · exact c
theorem Wk.lts (H : Wk h w tag p ns s z kv) {b : Nat} {l : Lb} (hb : tag b = some l) : b < w.heap.size := by
  rcases Nat.lt_or_ge b w.heap.size with c | c
  · exact c
  · rw [H.top b c] at hb; cases hb
theorem apart {tag : Nat → Option Lb} {a b : Nat} {l l' : Lb} (h : tag a = some l) (h' : tag b = some l') (hne : l ≠ l') : a ≠ b := fun e => hne (by rw [e, h'] at h; injection h.symm)
theorem Wk.at (H : Wk h w tag p ns s z kv) (i : Nat) {u : Value} (hu : (#[z.vN, z.vE, z.vn, z.vl, z.vg, .int .i64 (s.met : Int), z.vp, z.vo, z.vk] : Array Value)[i]? = some u) : w.cell? ⟨p, i, none⟩ = some u := cellOf H.cell hu
theorem Wk.fr (H : Wk h w tag p ns s z kv) (i : Nat) : w.frozen? ⟨p, i, none⟩ = false := by simp [World.frozen?, H.cell]

/-- The blocks of a walk as they were: the walk is. -/
theorem Wk.keep (H : Wk h w tag p ns s z kv) {w' : World} (hz : w.heap.size ≤ w'.heap.size) (hk : ∀ b l, b < w.heap.size → tag b = some l → w'.heap[b]? = w.heap[b]?) : Wk h w' tag p ns s z kv :=
  ⟨(hk p _ H.lt H.tp).trans H.cell, H.tp, fun b hb => H.top b (Nat.le_trans hz hb), H.bot, H.num.keep (fun g h1 h2 => hk g _ h1 h2) (fun _ _ h => h), H.low.keep (fun g h1 h2 => hk g _ h1 h2) (fun _ _ h => h), H.gone.keep (fun g h1 h2 => hk g _ h1 h2) (fun _ _ h => h), H.path.keep (fun g h1 h2 => hk g _ h1 h2) (fun _ _ h => h), H.opn.keep (fun g h1 h2 => hk g _ h1 h2) (fun _ _ h => h), H.kn.keep (fun g h1 h2 => hk g _ h1 h2) (fun _ _ h => h), H.kl, fun i v m h1 h2 => (H.ks i v m h1 h2).keep (fun g h1 h2 => hk g _ h1 h2) (fun _ _ h => h)⟩
theorem Wk.below (H : Wk h w tag p ns s z kv) {w' : World} (hb : Below w.heap.size w w') : Wk h w' tag p ns s z kv := H.keep hb.size (fun b _ hlt _ => hb.block b hlt)
theorem Wk.drew (H : Wk h w tag p ns s z kv) : Wk h w.drew tag p ns s z kv := H.keep (Nat.le_refl _) (fun _ _ _ _ => rfl)

/-- A store into the walk's own cells. -/
theorem Wk.setMet (H : Wk h w tag p ns s z kv) (m : Nat) : Wk h (w.setCell ⟨p, 5, none⟩ (.int .i64 (m : Int))) tag p ns { s with met := m } z kv := by
  have k : ∀ b l, tag b = some l → l ≠ .p → (w.setCell ⟨p, 5, none⟩ (.int .i64 (m : Int))).heap[b]? = w.heap[b]? := fun b l e hl => heap_setCell_other w _ b _ (apart e H.tp hl)
  refine ⟨heap_setCell_same w p 5 _ _ _ H.cell, H.tp, fun b hb => H.top b (by simpa using hb), H.bot, H.num.keep (fun g _ h2 => k g _ h2 (by simp)) (fun _ _ h => h), H.low.keep (fun g _ h2 => k g _ h2 (by simp)) (fun _ _ h => h), H.gone.keep (fun g _ h2 => k g _ h2 (by simp)) (fun _ _ h => h), H.path.keep (fun g _ h2 => k g _ h2 (by simp)) (fun _ _ h => h), H.opn.keep (fun g _ h2 => k g _ h2 (by simp)) (fun _ _ h => h), H.kn.keep (fun g _ h2 => k g _ h2 (by simp)) (fun _ _ h => h), H.kl, fun i v m h1 h2 => (H.ks i v m h1 h2).keep (fun g _ h2 => k g _ h2 (by simp)) (fun _ _ h => h)⟩

theorem Wk.setNum (H : Wk h w tag p ns s z kv) {g n c : Nat} (hv : z.vn = .slice (some ⟨g, 0, none⟩) n c) (i v : Nat) : Wk h (w.setCell ⟨g, i, none⟩ (.int .i64 (v : Int))) tag p ns { s with num := Tj.upd s.num i v } z kv := by
  have hg : tag g = some .num := H.num.tg g (by rw [hv]; rfl)
  have k : ∀ b l, tag b = some l → l ≠ .num → (w.setCell ⟨g, i, none⟩ (.int .i64 (v : Int))).heap[b]? = w.heap[b]? := fun b l e hl => heap_setCell_other w _ b _ (apart e hg hl)
  refine ⟨(k p _ H.tp (by simp)).trans H.cell, H.tp, fun b hb => H.top b (by simpa using hb), H.bot, ⟨?_, H.num.tg⟩, H.low.keep (fun g _ h2 => k g _ h2 (by simp)) (fun _ _ h => h), H.gone.keep (fun g _ h2 => k g _ h2 (by simp)) (fun _ _ h => h), H.path.keep (fun g _ h2 => k g _ h2 (by simp)) (fun _ _ h => h), H.opn.keep (fun g _ h2 => k g _ h2 (by simp)) (fun _ _ h => h), H.kn.keep (fun g _ h2 => k g _ h2 (by simp)) (fun _ _ h => h), H.kl, fun i v m h1 h2 => (H.ks i v m h1 h2).keep (fun g _ h2 => k g _ h2 (by simp)) (fun _ _ h => h)⟩
  have h1 := H.num.own
  rw [hv] at h1 ⊢
  have h2 := h1.set i (.int .i64 (v : Int))
  rw [fnc_set] at h2
  exact h2
theorem Wk.setLow (H : Wk h w tag p ns s z kv) {g n c : Nat} (hv : z.vl = .slice (some ⟨g, 0, none⟩) n c) (i v : Nat) : Wk h (w.setCell ⟨g, i, none⟩ (.int .i64 (v : Int))) tag p ns { s with low := Tj.upd s.low i v } z kv := by
  have hg : tag g = some .low := H.low.tg g (by rw [hv]; rfl)
  have k : ∀ b l, tag b = some l → l ≠ .low → (w.setCell ⟨g, i, none⟩ (.int .i64 (v : Int))).heap[b]? = w.heap[b]? := fun b l e hl => heap_setCell_other w _ b _ (apart e hg hl)
  refine ⟨(k p _ H.tp (by simp)).trans H.cell, H.tp, fun b hb => H.top b (by simpa using hb), H.bot, H.num.keep (fun g _ h2 => k g _ h2 (by simp)) (fun _ _ h => h), ⟨?_, H.low.tg⟩, H.gone.keep (fun g _ h2 => k g _ h2 (by simp)) (fun _ _ h => h), H.path.keep (fun g _ h2 => k g _ h2 (by simp)) (fun _ _ h => h), H.opn.keep (fun g _ h2 => k g _ h2 (by simp)) (fun _ _ h => h), H.kn.keep (fun g _ h2 => k g _ h2 (by simp)) (fun _ _ h => h), H.kl, fun i v m h1 h2 => (H.ks i v m h1 h2).keep (fun g _ h2 => k g _ h2 (by simp)) (fun _ _ h => h)⟩
  have h1 := H.low.own
  rw [hv] at h1 ⊢
  have h2 := h1.set i (.int .i64 (v : Int))
  rw [fnc_set] at h2
  exact h2
theorem Wk.setGone (H : Wk h w tag p ns s z kv) {g n c : Nat} (hv : z.vg = .slice (some ⟨g, 0, none⟩) n c) (i v : Nat) : Wk h (w.setCell ⟨g, i, none⟩ (.int .i64 (v : Int))) tag p ns { s with gone := Tj.upd s.gone i v } z kv := by
  have hg : tag g = some .gone := H.gone.tg g (by rw [hv]; rfl)
  have k : ∀ b l, tag b = some l → l ≠ .gone → (w.setCell ⟨g, i, none⟩ (.int .i64 (v : Int))).heap[b]? = w.heap[b]? := fun b l e hl => heap_setCell_other w _ b _ (apart e hg hl)
  refine ⟨(k p _ H.tp (by simp)).trans H.cell, H.tp, fun b hb => H.top b (by simpa using hb), H.bot, H.num.keep (fun g _ h2 => k g _ h2 (by simp)) (fun _ _ h => h), H.low.keep (fun g _ h2 => k g _ h2 (by simp)) (fun _ _ h => h), ⟨?_, H.gone.tg⟩, H.path.keep (fun g _ h2 => k g _ h2 (by simp)) (fun _ _ h => h), H.opn.keep (fun g _ h2 => k g _ h2 (by simp)) (fun _ _ h => h), H.kn.keep (fun g _ h2 => k g _ h2 (by simp)) (fun _ _ h => h), H.kl, fun i v m h1 h2 => (H.ks i v m h1 h2).keep (fun g _ h2 => k g _ h2 (by simp)) (fun _ _ h => h)⟩
  have h1 := H.gone.own
  rw [hv] at h1 ⊢
  have h2 := h1.set i (.int .i64 (v : Int))
  rw [fnc_set] at h2
  exact h2

/-- One block more with a tag. -/
def tagW (tag : Nat → Option Lb) (o : Option Nat) (l : Lb) : Nat → Option Lb := fun b => if o = some b then some l else tag b

theorem setC (w : World) {q : Nat} {cs : Array Value} {t : TypeId} (i : Nat) (v : Value) (hg : w.heap[q]? = some (.cells cs t (0, 0))) : (w.setCell ⟨q, i, none⟩ v).heap[q]? = some (.cells (cs.setIfInBounds i v) t (0, 0)) := heap_setCell_same w q i cs t v hg

/-- Behind an append to one of a walk's rows: the walk's own cells are as they were. -/
theorem Wk.grown (H : Wk h w tag p ns s z kv) {w1 : World} {v : Value} {l : Lb} (hg : w.grownBy w1 v.ownBlock) (hv : ∀ g, v.ownBlock = some g → tag g = some l) (hl : l ≠ .p) : w1.heap[p]? = w.heap[p]? :=
  hg.block p H.lt (fun e => hl (by have := hv p e.symm; rw [H.tp] at this; injection this.symm))
theorem Wk.grBel (H : Wk h w tag p ns s z kv) {w1 : World} {v : Value} {l : Lb} (hh : h ≤ w.heap.size) (hg : w.grownBy w1 v.ownBlock) (hv : ∀ g, v.ownBlock = some g → tag g = some l) : Below h w w1 :=
  (Below.refl _ _).grown hg hh (fun g e => H.ge (hv g e))
/-- The path anew: a row that lies where it lay, or in new memory. -/
theorem Wk.putPath (H : Wk h w tag p ns s z kv) {w1 : World} {v : Value} {path : List Nat} (hg : w.grownBy w1 z.vp.ownBlock) (hv : Own w1 h 3 v (nts path)) (ho : v.ownBlock = z.vp.ownBlock ∨ ∀ g, v.ownBlock = some g → w.heap.size ≤ g) :
    Wk h (w1.setCell ⟨p, 6, none⟩ v) (tagW tag v.ownBlock .path) p ns { s with path := path } { z with vp := v } kv := by
  have hold : ∀ b l, tag b = some l → l ≠ .path → w1.heap[b]? = w.heap[b]? := fun b l e hl => hg.block b (H.lts e) (fun e2 => hl (by have := H.path.tg b e2.symm; rw [this] at e; injection e.symm))
  have k : ∀ b l, tag b = some l → l ≠ .path → l ≠ .p → (w1.setCell ⟨p, 6, none⟩ v).heap[b]? = w.heap[b]? := fun b l e h1 h2 => (heap_setCell_other w1 _ b _ (apart e H.tp h2)).trans (hold b l e h1)
  have tk : ∀ b l, tag b = some l → l ≠ .path → tagW tag v.ownBlock .path b = some l := fun b l e hl => by
    unfold tagW
    rw [if_neg (fun e2 => ?_)]
    · exact e
    · rcases ho with ho | ho
      · have := H.path.tg b (by rw [← ho, e2]); rw [this] at e; exact hl (by injection e.symm)
      · have := ho b e2; have := H.lts e; omega
  refine ⟨?_, tk p _ H.tp (by simp), fun b hb => ?_, fun b hb => ?_, H.num.keep (fun g _ h2 => k g _ h2 (by simp) (by simp)) (fun g _ h => tk g _ h (by simp)), H.low.keep (fun g _ h2 => k g _ h2 (by simp) (by simp)) (fun g _ h => tk g _ h (by simp)), H.gone.keep (fun g _ h2 => k g _ h2 (by simp) (by simp)) (fun g _ h => tk g _ h (by simp)), ⟨?_, fun g hg => by unfold tagW; rw [if_pos hg]⟩, H.opn.keep (fun g _ h2 => k g _ h2 (by simp) (by simp)) (fun g _ h => tk g _ h (by simp)), H.kn.keep (fun g _ h2 => k g _ h2 (by simp) (by simp)) (fun g _ h => tk g _ h (by simp)), H.kl, fun i v m h1 h2 => (H.ks i v m h1 h2).keep (fun g _ h2 => k g _ h2 (by simp) (by simp)) (fun g _ h => tk g _ h (by simp))⟩
  · exact setC w1 6 v ((hold p _ H.tp (by simp)).trans H.cell)
  · have hb' : w1.heap.size ≤ b := by simpa using hb
    unfold tagW
    rw [if_neg (fun e => by have := (hv.lt e).1; omega)]
    exact H.top b (Nat.le_trans hg.size hb')
  · unfold tagW
    rw [if_neg (fun e => by have := (hv.lt e).2; omega)]
    exact H.bot b hb
  · refine hv.keep (fun g hgv => heap_setCell_other w1 _ g _ (fun e => ?_))
    have e' : g = p := e
    subst e'
    rcases ho with ho | ho
    · have := H.path.tg g (by rw [← ho, hgv]); rw [H.tp] at this; cases this
    · have := ho g hgv; have := H.lt; omega

theorem Wk.putOpn (H : Wk h w tag p ns s z kv) {w1 : World} {v : Value} {opn : List Nat} (hg : w.grownBy w1 z.vo.ownBlock) (hv : Own w1 h 3 v (nts opn)) (ho : v.ownBlock = z.vo.ownBlock ∨ ∀ g, v.ownBlock = some g → w.heap.size ≤ g) :
    Wk h (w1.setCell ⟨p, 7, none⟩ v) (tagW tag v.ownBlock .opn) p ns { s with opn := opn } { z with vo := v } kv := by
  have hold : ∀ b l, tag b = some l → l ≠ .opn → w1.heap[b]? = w.heap[b]? := fun b l e hl => hg.block b (H.lts e) (fun e2 => hl (by have := H.opn.tg b e2.symm; rw [this] at e; injection e.symm))
  have k : ∀ b l, tag b = some l → l ≠ .opn → l ≠ .p → (w1.setCell ⟨p, 7, none⟩ v).heap[b]? = w.heap[b]? := fun b l e h1 h2 => (heap_setCell_other w1 _ b _ (apart e H.tp h2)).trans (hold b l e h1)
  have tk : ∀ b l, tag b = some l → l ≠ .opn → tagW tag v.ownBlock .opn b = some l := fun b l e hl => by
    unfold tagW
    rw [if_neg (fun e2 => ?_)]
    · exact e
    · rcases ho with ho | ho
      · have := H.opn.tg b (by rw [← ho, e2]); rw [this] at e; exact hl (by injection e.symm)
      · have := ho b e2; have := H.lts e; omega
  refine ⟨?_, tk p _ H.tp (by simp), fun b hb => ?_, fun b hb => ?_, H.num.keep (fun g _ h2 => k g _ h2 (by simp) (by simp)) (fun g _ h => tk g _ h (by simp)), H.low.keep (fun g _ h2 => k g _ h2 (by simp) (by simp)) (fun g _ h => tk g _ h (by simp)), H.gone.keep (fun g _ h2 => k g _ h2 (by simp) (by simp)) (fun g _ h => tk g _ h (by simp)), H.path.keep (fun g _ h2 => k g _ h2 (by simp) (by simp)) (fun g _ h => tk g _ h (by simp)), ⟨?_, fun g hg => by unfold tagW; rw [if_pos hg]⟩, H.kn.keep (fun g _ h2 => k g _ h2 (by simp) (by simp)) (fun g _ h => tk g _ h (by simp)), H.kl, fun i v m h1 h2 => (H.ks i v m h1 h2).keep (fun g _ h2 => k g _ h2 (by simp) (by simp)) (fun g _ h => tk g _ h (by simp))⟩
  · exact setC w1 7 v ((hold p _ H.tp (by simp)).trans H.cell)
  · have hb' : w1.heap.size ≤ b := by simpa using hb
    unfold tagW
    rw [if_neg (fun e => by have := (hv.lt e).1; omega)]
    exact H.top b (Nat.le_trans hg.size hb')
  · unfold tagW
    rw [if_neg (fun e => by have := (hv.lt e).2; omega)]
    exact H.bot b hb
  · refine hv.keep (fun g hgv => heap_setCell_other w1 _ g _ (fun e => ?_))
    have e' : g = p := e
    subst e'
    rcases ho with ho | ho
    · have := H.opn.tg g (by rw [← ho, hgv]); rw [H.tp] at this; cases this
    · have := ho g hgv; have := H.lt; omega

/-- A knot more: its row lies in memory that is nobody's. -/
theorem Wk.putKn (H : Wk h w tag p ns s z kv) {w1 : World} {v r : Value} {m : List Nat} (hg : w.grownBy w1 z.vk.ownBlock) (hv : Own w1 h 28 v (kv ++ [r])) (ho : v.ownBlock = z.vk.ownBlock ∨ ∀ g, v.ownBlock = some g → w.heap.size ≤ g)
    (hr : Own w h 3 r (its (Kn.nodesOf ns m))) (hrt : ∀ g, r.ownBlock = some g → tag g = none) :
    Wk h (w1.setCell ⟨p, 8, none⟩ v) (tagW (tagW tag r.ownBlock .k) v.ownBlock .kn) p ns { s with done := s.done ++ [m] } { z with vk := v } (kv ++ [r]) := by
  have hold : ∀ b l, tag b = some l → l ≠ .kn → w1.heap[b]? = w.heap[b]? := fun b l e hl => hg.block b (H.lts e) (fun e2 => hl (by have := H.kn.tg b e2.symm; rw [this] at e; injection e.symm))
  have k : ∀ b l, tag b = some l → l ≠ .kn → l ≠ .p → (w1.setCell ⟨p, 8, none⟩ v).heap[b]? = w.heap[b]? := fun b l e h1 h2 => (heap_setCell_other w1 _ b _ (apart e H.tp h2)).trans (hold b l e h1)
  have hvr : ∀ b, v.ownBlock = some b → r.ownBlock ≠ some b := fun b e1 e2 => by
    rcases ho with ho | ho
    · have h1 := H.kn.tg b (by rw [← ho, e1]); rw [hrt b e2] at h1; cases h1
    · have := ho b e1; have := (hr.lt e2).1; omega
  have tk0 : ∀ b l, tag b = some l → l ≠ .kn → v.ownBlock ≠ some b := fun b l e hl e2 => by
    rcases ho with ho | ho
    · have := H.kn.tg b (by rw [← ho, e2]); rw [this] at e; exact hl (by injection e.symm)
    · have := ho b e2; have := H.lts e; omega
  have tk : ∀ b l, tag b = some l → l ≠ .kn → tagW (tagW tag r.ownBlock .k) v.ownBlock .kn b = some l := fun b l e hl => by
    unfold tagW
    rw [if_neg (tk0 b l e hl), if_neg (fun e2 => by rw [hrt b e2] at e; cases e)]
    exact e
  refine ⟨?_, tk p _ H.tp (by simp), fun b hb => ?_, fun b hb => ?_, H.num.keep (fun g _ h2 => k g _ h2 (by simp) (by simp)) (fun g _ h => tk g _ h (by simp)), H.low.keep (fun g _ h2 => k g _ h2 (by simp) (by simp)) (fun g _ h => tk g _ h (by simp)), H.gone.keep (fun g _ h2 => k g _ h2 (by simp) (by simp)) (fun g _ h => tk g _ h (by simp)), H.path.keep (fun g _ h2 => k g _ h2 (by simp) (by simp)) (fun g _ h => tk g _ h (by simp)), H.opn.keep (fun g _ h2 => k g _ h2 (by simp) (by simp)) (fun g _ h => tk g _ h (by simp)), ⟨?_, fun g hg => by unfold tagW; rw [if_pos hg]⟩, by simp [H.kl], fun i u m' h1 h2 => ?_⟩
  · exact setC w1 8 v ((hold p _ H.tp (by simp)).trans H.cell)
  · have hb' : w1.heap.size ≤ b := by simpa using hb
    unfold tagW
    rw [if_neg (fun e => by have := (hv.lt e).1; omega), if_neg (fun e => by have := (hr.lt e).1; have := hg.size; omega)]
    exact H.top b (Nat.le_trans hg.size hb')
  · unfold tagW
    rw [if_neg (fun e => by have := (hv.lt e).2; omega), if_neg (fun e => by have := (hr.lt e).2; omega)]
    exact H.bot b hb
  · refine hv.keep (fun g hgv => heap_setCell_other w1 _ g _ (fun e => ?_))
    have e' : g = p := e
    subst e'
    exact tk0 g _ H.tp (by simp) hgv
  · rcases Nat.lt_or_ge i kv.length with c | c
    · rw [List.getElem?_append_left c] at h1
      rw [List.getElem?_append_left (by rw [← H.kl]; exact c)] at h2
      exact (H.ks i u m' h1 h2).keep (fun g _ h2 => k g _ h2 (by simp) (by simp)) (fun g _ h => tk g _ h (by simp))
    · have ei : i = kv.length := by
        have := (List.getElem?_eq_some_iff.1 h1).1
        simp at this; omega
      subst ei
      rw [List.getElem?_append_right (Nat.le_refl _)] at h1
      rw [H.kl, List.getElem?_append_right (Nat.le_refl _)] at h2
      simp at h1 h2
      subst h1 h2
      refine ⟨hr.keep (fun g hgr => ?_), fun g hgr => by unfold tagW; rw [if_neg (fun e => hvr g e hgr), if_pos hgr]⟩
      have hgp : g ≠ p := fun e => by have h3 := H.tp; rw [← e, hrt g hgr] at h3; cases h3
      exact (heap_setCell_other w1 _ g _ hgp).trans (hg.block g (hr.lt hgr).1 (fun e => by have h3 := H.kn.tg g e.symm; rw [hrt g hgr] at h3; cases h3))
end Mm
end Go.Proofs.Ythikdfcndppoaaa
