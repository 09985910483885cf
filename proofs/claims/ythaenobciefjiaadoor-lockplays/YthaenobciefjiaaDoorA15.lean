/- serve. -/
import Derived.Test.YthaenobciefjiaaDoorA11
namespace Go.Proofs.YthaenobciefjiaaDoor
open Go.RowKit Go.Maps Go.ChangeMaps Go.MapKept

namespace Lk
/-- The rows of a queue are nobody's. -/
def forget (tag : Nat → Option Lb) (nm : Bytes) (b : Nat) : Option Lb :=
  match tag b with
  | some (.g n) => if n = nm then none else some (.g n)
  | t => t
theorem forget_none {tag : Nat → Option Lb} {nm : Bytes} {b : Nat} (h : tag b = none) : forget tag nm b = none := by unfold forget; rw [h]
theorem forget_row {tag : Nat → Option Lb} {nm : Bytes} {b : Nat} (h : tag b = some (.g nm)) : forget tag nm b = none := by unfold forget; rw [h]; simp
theorem forget_of {tag : Nat → Option Lb} {nm : Bytes} {b : Nat} {l : Lb} (h : tag b = some l) (hl : l ≠ .g nm) : forget tag nm b = some l := by
  unfold forget; rw [h]
  cases l <;> simp
  rename_i n
  intro e
  exact hl (by rw [e])
variable {w : World} {tag : Nat → Option Lb} {p N : Nat} {s : St} {bs bw bq : Nat} {bi : Int → Nat} {sl : Bytes → Value}
theorem Tb.forget (h : Tb w tag p N s bs bw bq bi sl) {nm : Bytes} (hq : s.q nm = []) : Tb w (forget tag nm) p N s bs bw bq bi sl :=
  ⟨h.cell, forget_of h.tp (by simp), forget_of h.ts (by simp), forget_of h.tw (by simp), forget_of h.tq (by simp), fun x hx => forget_of (h.ti x hx) (by simp), fun b hb => forget_none (h.top b hb), h.sets, h.inner, h.wants, h.queues, fun n hn => ⟨(h.rows n hn).1, fun g hg => forget_of ((h.rows n hn).2 g hg) (fun e => by injection e with e; rw [e] at hn; exact hn hq)⟩, h.lo, h.nh, h.qn, h.hw, h.qw⟩
theorem Ev.forget {t t' : Nat → Option Lb} {a b : World} (h : Ev t t' a b) (nm : Bytes) : Ev t (forget t' nm) a b := ⟨h.os, h.tape, h.output, h.size, h.block, fun i hi ht => forget_none (h.tags i hi ht)⟩
theorem Ev.grow {t t' : Nat → Option Lb} {a b c : World} (h : Ev t t' a b) {row : Option Nat} (hg : b.grownBy c row) (hr : ∀ k, row = some k → a.heap.size ≤ k) : Ev t t' a c :=
  ⟨hg.os.trans h.os, hg.tape.trans h.tape, hg.output.trans h.output, Nat.le_trans h.size hg.size, fun i hi ht => (hg.block i (Nat.lt_of_lt_of_le hi h.size) (fun e => by have := hr i e.symm; omega)).trans (h.block i hi ht), h.tags⟩
theorem row_keep {W W' : World} {base : Nat} {e : TypeId} {v : Value} {n : Nat} {xs : List Value} (h : W.ownsRow base e 1 v n xs) (hk : ∀ g, v.ownBlock = some g → g < W.heap.size → W'.heap[g]? = W.heap[g]?) : W'.ownsRow base e 1 v n xs := by
  obtain ⟨h1, h2⟩ := h
  refine ⟨h1, ?_⟩
  rcases h2 with h2 | ⟨g, cap, cur, e, hb, hg, r⟩
  · exact Or.inl h2
  · exact Or.inr ⟨g, cap, cur, e, hb, (hk g (by rw [e]; rfl) (Array.getElem?_eq_some_iff.1 hg).1).trans hg, r⟩
theorem row_lt {W : World} {n k g : Nat} {e : TypeId} {v : Value} {xs : List Value} (h : W.ownsRow k e 1 v n xs) (hg : v.ownBlock = some g) : g < W.heap.size := by
  rcases h.2 with ⟨h2, h3⟩ | ⟨g', cap, cur, e1, hb, hg', _⟩
  · rw [h2] at hg; cases hg
  · rw [e1] at hg; injection hg with hg; simp at hg; rw [← hg]; exact (Array.getElem?_eq_some_iff.1 hg').1

def unwantS (s : St) (x : Int) : St := { s with want := fun y => if y = x then none else s.want y }
def emptyS (s : St) (nm : Bytes) : St := { s with q := fun k => if k = nm then [] else s.q k }
/-- Who waited has what it waited for. -/
def gotS (s : St) (x : Int) (nm : Bytes) (m : Int) : St := giveS (holS (unwantS s x) x) x nm (s.set x nm ||| bit m)
/-- Through a queue. -/
inductive Serve (nm : Bytes) : St → List Int → St → List Int → Prop
  | nil (s : St) : Serve nm s [] s []
  | wait {s : St} {x : Int} {m : Int} {l : List Int} {s' : St} {L : List Int} : s.want x = some (nm, m) → barredP s x nm m → Serve nm (enqS s nm x) l s' L → Serve nm s (x :: l) s' L
  | get {s : St} {x : Int} {m : Int} {l : List Int} {s' : St} {L : List Int} : s.want x = some (nm, m) → ¬ barredP s x nm m → Serve nm (gotS s x nm m) l s' L → Serve nm s (x :: l) s' (x :: L)

/-- Under way through a queue. -/
structure Sv (w W : World) (tag tag' : Nat → Option Lb) (p N : Nat) (s s' : St) (bs bw bq : Nat) (bi : Int → Nat) (sl : Bytes → Value) (nm : Bytes) (l : List Int) (k : Nat) (v : Value) (L : List Int) : Prop where
  tb : Tb W tag' p (N + 2 * k) s' bs bw bq bi sl
  ev : Ev tag tag' w W
  row : W.ownsRow w.heap.size 3 1 v L.length (L.map (Value.int .i64))
  fr : ∀ g, v.ownBlock = some g → tag' g = none
  sv : ∀ s2 L2, Serve nm s' (l.drop k) s2 L2 → Serve nm s l s2 (L ++ L2)
  wt : ∀ h ∈ l.drop k, ∃ m, s'.want h = some (nm, m) ∧ 1 ≤ m ∧ m ≤ 8
  nd : (l.drop k).Nodup
  ln : L.length ≤ k
theorem Sv.start (h : Tb w tag p N s bs bw bq bi sl) {nm : Bytes} {l : List Int} (hw : ∀ h ∈ l, ∃ m, s.want h = some (nm, m) ∧ 1 ≤ m ∧ m ≤ 8) (hnd : l.Nodup) : Sv w w tag tag p N s s bs bw bq bi sl nm l 0 (.slice none 0 0) [] :=
  ⟨h, Ev.refl _ _, ⟨rfl, Or.inl ⟨rfl, rfl⟩⟩, (fun _ e => nomatch e), fun _ _ hs => by simpa using hs, by simpa using hw, by simpa using hnd, Nat.le_refl _⟩
section
variable {W W2 W3 : World} {tag' tag2 : Nat → Option Lb} {s' : St} {bi2 : Int → Nat} {sl2 : Bytes → Value} {nm : Bytes} {l : List Int} {k : Nat} {v v' : Value} {L : List Int} {o m : Int}
theorem drop_at (ho : l[k]? = some o) : l.drop k = o :: l.drop (k + 1) := by
  obtain ⟨h1, h2⟩ := List.getElem?_eq_some_iff.1 ho
  rw [List.drop_eq_getElem_cons h1, h2]
theorem Sv.wait (h : Sv w W tag tag' p N s s' bs bw bq bi sl nm l k v L) (ho : l[k]? = some o) (hm : s'.want o = some (nm, m)) (hb : barredP s' o nm m) (hT : Tb W2 tag2 p (N + 2 * k + 1) (enqS s' nm o) bs bw bq bi2 sl2) (hE : Ev tag' tag2 W W2) :
    Sv w W2 tag tag2 p N s (enqS s' nm o) bs bw bq bi2 sl2 nm l (k + 1) v L := by
  have hd := drop_at ho
  have hnd := h.nd
  have hwt := h.wt
  rw [hd] at hnd hwt
  exact ⟨hT.mono (by omega), h.ev.trans hE, row_keep h.row (fun g hg hlt => hE.block g hlt (h.fr g hg)), fun g hg => hE.tags g (row_lt h.row hg) (h.fr g hg), fun s2 L2 hs => h.sv s2 L2 (by rw [hd]; exact .wait hm hb hs), fun y hy => hwt y (List.mem_cons_of_mem _ hy), (List.nodup_cons.1 hnd).2, Nat.le_succ_of_le h.ln⟩
theorem Sv.get (h : Sv w W tag tag' p N s s' bs bw bq bi sl nm l k v L) (ho : l[k]? = some o) (hm : s'.want o = some (nm, m)) (hb : ¬ barredP s' o nm m) (hT : Tb W2 tag2 p (N + 2 * k + 2) (gotS s' o nm m) bs bw bq bi2 sl2) (hE : Ev tag' tag2 W W2)
    (hrow : W3.ownsRow w.heap.size 3 1 v' (L.length + 1) (L.map (Value.int .i64) ++ [.int .i64 o])) (hgr : W2.grownBy W3 v.ownBlock) (hloc : ∀ g, v'.ownBlock = some g → v.ownBlock = some g ∨ W2.heap.size ≤ g) :
    Sv w W3 tag tag2 p N s (gotS s' o nm m) bs bw bq bi2 sl2 nm l (k + 1) v' (L ++ [o]) := by
  have hd := drop_at ho
  have hnd := h.nd
  have hwt := h.wt
  rw [hd] at hnd hwt
  have hfr : ∀ g, v.ownBlock = some g → tag2 g = none := fun g hg => hE.tags g (row_lt h.row hg) (h.fr g hg)
  refine ⟨(hT.kept hgr.size (fun b hb1 hb2 => hgr.block b hb1 (fun e => hb2 (hfr b e.symm)))).mono (by omega), (h.ev.trans hE).grow hgr (fun g hg => row_lo h.row hg), by simpa using hrow, fun g hg => ?_, fun s2 L2 hs => ?_, fun y hy => ?_, (List.nodup_cons.1 hnd).2, by have := h.ln; simp; omega⟩
  · rcases hloc g hg with e | e
    · exact hfr g e
    · exact hT.top g e
  · rw [List.append_assoc]
    exact h.sv s2 (o :: L2) (by rw [hd]; exact .get hm hb hs)
  · obtain ⟨m', h1, h2⟩ := hwt y (List.mem_cons_of_mem _ hy)
    refine ⟨m', ?_, h2⟩
    show (if y = o then none else s'.want y) = _
    rw [if_neg (fun e => by rw [e] at hy; exact (List.nodup_cons.1 hnd).1 hy)]
    exact h1
end
end Lk

end Go.Proofs.YthaenobciefjiaaDoor
